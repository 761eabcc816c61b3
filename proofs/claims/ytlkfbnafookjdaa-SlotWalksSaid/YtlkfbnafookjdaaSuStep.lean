/-
  The law's step of layer 15, walked: both slots go on alike. Written by wip/tools/gen/sustep.py. No condition.
-/
import Derived.Test.YtlkfbnafookjdaaSuStep0
namespace Go.Proofs.Ytlkfbnafookjdaa
open Go.RowKit Go.Deep
set_option linter.unusedSimpArgs false
set_option linter.unusedVariables false

set_option maxHeartbeats 6400000 in
theorem sustep_0 (x : Su.S) (kd a b : Int) (hk : (IntKind.u64.wrap kd).tmod 5 = 0) (W : World) : Calls Try.prog 9 #[suV x, suV x, .int .i64 kd, .agg #[.int .i64 a, .int .i64 b]] W (StepPost W (Su.want x a b)) := by
  obtain ⟨y, hy⟩ : ∃ y, y = Su.want x a b := ⟨_, rfl⟩
  obtain ⟨d, hd⟩ : ∃ d, d = decide (Su.takes x a b) := ⟨_, rfl⟩
  have CD : Hid (∀ W, Calls Try.prog 13 #[suV x, .int .i64 a, .int .i64 b] W (SuPost W y d)) := fun W => by rw [hy, hd]; exact sdwant_is x a b W
  have CR : Hid (∀ W, Calls Try.prog 17 #[suV x, .int .i64 a, .int .i64 b] W (SuPost W y d)) := fun W => by rw [hy, hd]; exact rswant_any x a b W
  rw [← hy]
  clear hy hd
  obtain ⟨g, W1, hW, hg, p0⟩ := sp_new W x a b
  have HW := Lib.hid hW
  have HG := Lib.hid hg
  have P := Lib.hid p0
  clear hW hg p0
  unfold suV suC at *
  go_enter Try.func9, Try.ntmps9
  go_upto_region 1 with fail
  rw [← HW.out, ← HG.out]
  obtain ⟨c0, c1, c2, c3, cl⟩ := P.out.s.cells
  obtain ⟨d0, d1, d2, d3, dl⟩ := P.out.r.cells
  have n0 : W1.cell? ⟨g + 1 + 1, 0, none⟩ = some (.int .i64 a) := (by rw [cell_of_row W1 (g + 1 + 1) 0 _ _ _ P.out.n]; rfl)
  have n1 : W1.cell? ⟨g + 1 + 1, 1, none⟩ = some (.int .i64 b) := (by rw [cell_of_row W1 (g + 1 + 1) 1 _ _ _ P.out.n]; rfl)
  go_upto_region 4 with (go_at_call 13; (with_reducible refine (CD.out _).mono ?_); rintro e w2 ⟨rfl, hb⟩; replace P := Lib.hid (P.out.on hb); clear hb c0 c1 c2 c3 cl d0 d1 d2 d3 dl n0 n1)
  have PL := Lib.hid P.out.z.cells.2.2.2.2
  have hb := (Below.refl w2.heap.size w2).alloc (Nat.le_refl _) (.cells (suC y) 28)
  replace P := Lib.hid (P.out.on hb)
  have Y := Lib.hid (SuAt.new 28 w2 y)
  clear hb
  obtain ⟨g2, hg2⟩ : ∃ g, g = w2.heap.size := ⟨_, rfl⟩
  have L2 : Hid (g + 1 + 1 + 1 + 1 < g2) := by have h := PL.out; show _ < _; omega
  rw [← hg2] at Y ⊢
  have HG2 := Lib.hid hg2
  clear hg2 PL
  unfold suC at *
  generalize w2.alloc (.cells #[.int .i64 y.st, .int .i64 y.v, .int .i64 y.wa, .int .i64 y.sq] 28) = W3 at *
  obtain ⟨c0, c1, c2, c3, cl⟩ := P.out.s.cells
  obtain ⟨d0, d1, d2, d3, dl⟩ := P.out.r.cells
  have n0 : W3.cell? ⟨g + 1 + 1, 0, none⟩ = some (.int .i64 a) := (by rw [cell_of_row W3 (g + 1 + 1) 0 _ _ _ P.out.n]; rfl)
  have n1 : W3.cell? ⟨g + 1 + 1, 1, none⟩ = some (.int .i64 b) := (by rw [cell_of_row W3 (g + 1 + 1) 1 _ _ _ P.out.n]; rfl)
  go_upto_region 5 with (go_at_call 17; (with_reducible refine (CR.out _).mono ?_); rintro e w4 ⟨rfl, hb⟩; replace P := Lib.hid (P.out.on hb); replace Y := Lib.hid (Y.out.on hb); clear hb c0 c1 c2 c3 cl d0 d1 d2 d3 dl n0 n1)
  have PL := Lib.hid P.out.z.cells.2.2.2.2
  have hb := (Below.refl w4.heap.size w4).alloc (Nat.le_refl _) (.cells (suC y) 23)
  replace P := Lib.hid (P.out.on hb)
  replace Y := Lib.hid (Y.out.on hb)
  have Z := Lib.hid (SuAt.new 23 w4 y)
  clear hb
  obtain ⟨g4, hg4⟩ : ∃ g, g = w4.heap.size := ⟨_, rfl⟩
  have L4 : Hid (g + 1 + 1 + 1 + 1 < g4) := by have h := PL.out; show _ < _; omega
  rw [← hg4] at Z ⊢
  have HG4 := Lib.hid hg4
  clear hg4 PL
  unfold suC at *
  generalize w4.alloc (.cells #[.int .i64 y.st, .int .i64 y.v, .int .i64 y.wa, .int .i64 y.sq] 23) = W5 at *
  obtain ⟨c0, c1, c2, c3, cl⟩ := Y.out.cells
  obtain ⟨d0, d1, d2, d3, dl⟩ := Z.out.cells
  obtain ⟨o0, o1, o2, o3, ol⟩ := P.out.y.cells
  obtain ⟨p0, p1, p2, p3, pl⟩ := P.out.z.cells
  obtain ⟨f0, f1, f2, f3⟩ := P.out.y.fz
  obtain ⟨k0, k1, k2, k3⟩ := P.out.z.fz
  have : g2 ≠ g + 1 + 1 + 1 := by have := L2.out; omega
  have : g2 ≠ g + 1 + 1 + 1 + 1 := by have := L2.out; omega
  have : g4 ≠ g + 1 + 1 + 1 := by have := L4.out; omega
  have : g4 ≠ g + 1 + 1 + 1 + 1 := by have := L4.out; omega
  have hS0 : SuAt 28 W5.drew g2 y ∧ SuAt 23 W5.drew g4 y := ⟨Y.out.on (Below.refl _ _).drew, Z.out.on (Below.refl _ _).drew⟩
  clear c0 c1 c2 c3 cl d0 d1 d2 d3 dl
  refine wp_region_held_drew (S := fun V => SuAt 28 V g2 y ∧ SuAt 23 V g4 y) (by kernel_rfl) hS0 (fun hS => ?_)
  clear hS0
  refine tkYes 0 (v := ?_) rfl (by kernel_rfl) (fun _ _ _ h => h) rfl ?_ hS ?_
  rotate_left
  · intro W hW; obtain ⟨c0, c1, c2, c3, cl⟩ := hW.1.cells; go_simp; (try with_reducible rfl)
  simp only [Act.put, List.setIfInBounds_toArray, List.set_cons_zero, List.set_cons_succ]
  refine tkYes 1 (v := ?_) rfl (by kernel_rfl) (fun _ _ _ h => h) rfl ?_ hS ?_
  rotate_left
  · intro W hW; obtain ⟨c0, c1, c2, c3, cl⟩ := hW.2.cells; go_simp; (try with_reducible rfl)
  simp only [Act.put, List.setIfInBounds_toArray, List.set_cons_zero, List.set_cons_succ]
  refine tkYes 2 (v := ?_) rfl (by kernel_rfl) (fun _ _ _ h => h) rfl ?_ hS ?_
  rotate_left
  · intro W hW; go_simp; (try with_reducible rfl)
  simp only [Act.put, List.setIfInBounds_toArray, List.set_cons_zero, List.set_cons_succ]
  refine tkYes 3 (v := ?_) rfl (by kernel_rfl) (fun _ _ _ h => h) rfl ?_ hS ?_
  rotate_left
  · intro W hW; go_simp; (try with_reducible rfl)
  simp only [Act.put, List.setIfInBounds_toArray, List.set_cons_zero, List.set_cons_succ]
  refine tkYes 4 (v := ?_) rfl (by kernel_rfl) (fun _ _ _ h => h) rfl ?_ hS ?_
  rotate_left
  · intro W hW; go_simp; (try with_reducible rfl)
  simp only [Act.put, List.setIfInBounds_toArray, List.set_cons_zero, List.set_cons_succ]
  refine rnOne 5 rfl (by kernel_rfl) rfl (fun K hK => ?_)
  go_simp
  replace hS : SuAt 28 ((((W5.setCell ⟨g + 1 + 1 + 1, 0, none⟩ (.int .i64 y.st)).setCell ⟨g + 1 + 1 + 1, 1, none⟩ (.int .i64 y.v)).setCell ⟨g + 1 + 1 + 1, 2, none⟩ (.int .i64 y.wa)).setCell ⟨g + 1 + 1 + 1, 3, none⟩ (.int .i64 y.sq)).drew g2 y ∧ SuAt 23 ((((W5.setCell ⟨g + 1 + 1 + 1, 0, none⟩ (.int .i64 y.st)).setCell ⟨g + 1 + 1 + 1, 1, none⟩ (.int .i64 y.v)).setCell ⟨g + 1 + 1 + 1, 2, none⟩ (.int .i64 y.wa)).setCell ⟨g + 1 + 1 + 1, 3, none⟩ (.int .i64 y.sq)).drew g4 y := ⟨(set_apart (set_apart (set_apart (set_apart Y.out (by omega) 0 _) (by omega) 1 _) (by omega) 2 _) (by omega) 3 _).on (Below.refl _ _).drew, (set_apart (set_apart (set_apart (set_apart Z.out (by omega) 0 _) (by omega) 1 _) (by omega) 2 _) (by omega) 3 _).on (Below.refl _ _).drew⟩
  refine hK.out _ _ hS (fun _ => ?_)
  clear hK K
  try simp only [Act.put, List.setIfInBounds_toArray, List.set_cons_zero, List.set_cons_succ]
  refine rnOne 6 rfl (by kernel_rfl) rfl (fun K hK => ?_)
  go_simp
  replace hS : SuAt 28 ((((((((W5.setCell ⟨g + 1 + 1 + 1, 0, none⟩ (.int .i64 y.st)).setCell ⟨g + 1 + 1 + 1, 1, none⟩ (.int .i64 y.v)).setCell ⟨g + 1 + 1 + 1, 2, none⟩ (.int .i64 y.wa)).setCell ⟨g + 1 + 1 + 1, 3, none⟩ (.int .i64 y.sq)).setCell ⟨g + 1 + 1 + 1 + 1, 0, none⟩ (.int .i64 y.st)).setCell ⟨g + 1 + 1 + 1 + 1, 1, none⟩ (.int .i64 y.v)).setCell ⟨g + 1 + 1 + 1 + 1, 2, none⟩ (.int .i64 y.wa)).setCell ⟨g + 1 + 1 + 1 + 1, 3, none⟩ (.int .i64 y.sq)).drew g2 y ∧ SuAt 23 ((((((((W5.setCell ⟨g + 1 + 1 + 1, 0, none⟩ (.int .i64 y.st)).setCell ⟨g + 1 + 1 + 1, 1, none⟩ (.int .i64 y.v)).setCell ⟨g + 1 + 1 + 1, 2, none⟩ (.int .i64 y.wa)).setCell ⟨g + 1 + 1 + 1, 3, none⟩ (.int .i64 y.sq)).setCell ⟨g + 1 + 1 + 1 + 1, 0, none⟩ (.int .i64 y.st)).setCell ⟨g + 1 + 1 + 1 + 1, 1, none⟩ (.int .i64 y.v)).setCell ⟨g + 1 + 1 + 1 + 1, 2, none⟩ (.int .i64 y.wa)).setCell ⟨g + 1 + 1 + 1 + 1, 3, none⟩ (.int .i64 y.sq)).drew g4 y := ⟨(set_apart (set_apart (set_apart (set_apart (set_apart (set_apart (set_apart (set_apart Y.out (by omega) 0 _) (by omega) 1 _) (by omega) 2 _) (by omega) 3 _) (by omega) 0 _) (by omega) 1 _) (by omega) 2 _) (by omega) 3 _).on (Below.refl _ _).drew, (set_apart (set_apart (set_apart (set_apart (set_apart (set_apart (set_apart (set_apart Z.out (by omega) 0 _) (by omega) 1 _) (by omega) 2 _) (by omega) 3 _) (by omega) 0 _) (by omega) 1 _) (by omega) 2 _) (by omega) 3 _).on (Below.refl _ _).drew⟩
  refine hK.out _ _ hS (fun _ => ?_)
  clear hK K
  try simp only [Act.put, List.setIfInBounds_toArray, List.set_cons_zero, List.set_cons_succ]
  refine tkYes 7 (v := ?_) rfl (by kernel_rfl) (fun _ _ _ h => h) rfl ?_ hS ?_
  rotate_left
  · intro W hW; go_simp; (try with_reducible rfl)
  simp only [Act.put, List.setIfInBounds_toArray, List.set_cons_zero, List.set_cons_succ]
  refine wpAnyH_done (by kernel_rfl) ?_ _
  go_wp2_with fail
  exact su_ret3 Try.results9 ((P.out.fy y).fz y).drew rfl rfl rfl rfl
set_option maxHeartbeats 6400000 in
theorem sustep_1 (x : Su.S) (kd a b : Int) (hk : (IntKind.u64.wrap kd).tmod 5 = 1) (W : World) : Calls Try.prog 9 #[suV x, suV x, .int .i64 kd, .agg #[.int .i64 a, .int .i64 b]] W (StepPost W (Su.go x)) := by
  obtain ⟨y, hy⟩ : ∃ y, y = Su.go x := ⟨_, rfl⟩
  obtain ⟨d, hd⟩ : ∃ d, d = decide (Su.goes x) := ⟨_, rfl⟩
  have CD : Hid (∀ W, Calls Try.prog 11 #[suV x] W (SuPost W y d)) := fun W => by rw [hy, hd]; exact sdgo_is x W
  have CR : Hid (∀ W, Calls Try.prog 18 #[suV x] W (SuPost W y d)) := fun W => by rw [hy, hd]; exact rsgo_any x W
  rw [← hy]
  clear hy hd
  obtain ⟨g, W1, hW, hg, p0⟩ := sp_new W x a b
  have HW := Lib.hid hW
  have HG := Lib.hid hg
  have P := Lib.hid p0
  clear hW hg p0
  unfold suV suC at *
  go_enter Try.func9, Try.ntmps9
  go_upto_region 1 with fail
  rw [← HW.out, ← HG.out]
  obtain ⟨c0, c1, c2, c3, cl⟩ := P.out.s.cells
  obtain ⟨d0, d1, d2, d3, dl⟩ := P.out.r.cells
  have n0 : W1.cell? ⟨g + 1 + 1, 0, none⟩ = some (.int .i64 a) := (by rw [cell_of_row W1 (g + 1 + 1) 0 _ _ _ P.out.n]; rfl)
  have n1 : W1.cell? ⟨g + 1 + 1, 1, none⟩ = some (.int .i64 b) := (by rw [cell_of_row W1 (g + 1 + 1) 1 _ _ _ P.out.n]; rfl)
  go_upto_region 8 with (go_at_call 11; (with_reducible refine (CD.out _).mono ?_); rintro e w2 ⟨rfl, hb⟩; replace P := Lib.hid (P.out.on hb); clear hb c0 c1 c2 c3 cl d0 d1 d2 d3 dl n0 n1)
  have PL := Lib.hid P.out.z.cells.2.2.2.2
  have hb := (Below.refl w2.heap.size w2).alloc (Nat.le_refl _) (.cells (suC y) 28)
  replace P := Lib.hid (P.out.on hb)
  have Y := Lib.hid (SuAt.new 28 w2 y)
  clear hb
  obtain ⟨g2, hg2⟩ : ∃ g, g = w2.heap.size := ⟨_, rfl⟩
  have L2 : Hid (g + 1 + 1 + 1 + 1 < g2) := by have h := PL.out; show _ < _; omega
  rw [← hg2] at Y ⊢
  have HG2 := Lib.hid hg2
  clear hg2 PL
  unfold suC at *
  generalize w2.alloc (.cells #[.int .i64 y.st, .int .i64 y.v, .int .i64 y.wa, .int .i64 y.sq] 28) = W3 at *
  obtain ⟨c0, c1, c2, c3, cl⟩ := P.out.s.cells
  obtain ⟨d0, d1, d2, d3, dl⟩ := P.out.r.cells
  have n0 : W3.cell? ⟨g + 1 + 1, 0, none⟩ = some (.int .i64 a) := (by rw [cell_of_row W3 (g + 1 + 1) 0 _ _ _ P.out.n]; rfl)
  have n1 : W3.cell? ⟨g + 1 + 1, 1, none⟩ = some (.int .i64 b) := (by rw [cell_of_row W3 (g + 1 + 1) 1 _ _ _ P.out.n]; rfl)
  go_upto_region 9 with (go_at_call 18; (with_reducible refine (CR.out _).mono ?_); rintro e w4 ⟨rfl, hb⟩; replace P := Lib.hid (P.out.on hb); replace Y := Lib.hid (Y.out.on hb); clear hb c0 c1 c2 c3 cl d0 d1 d2 d3 dl n0 n1)
  have PL := Lib.hid P.out.z.cells.2.2.2.2
  have hb := (Below.refl w4.heap.size w4).alloc (Nat.le_refl _) (.cells (suC y) 23)
  replace P := Lib.hid (P.out.on hb)
  replace Y := Lib.hid (Y.out.on hb)
  have Z := Lib.hid (SuAt.new 23 w4 y)
  clear hb
  obtain ⟨g4, hg4⟩ : ∃ g, g = w4.heap.size := ⟨_, rfl⟩
  have L4 : Hid (g + 1 + 1 + 1 + 1 < g4) := by have h := PL.out; show _ < _; omega
  rw [← hg4] at Z ⊢
  have HG4 := Lib.hid hg4
  clear hg4 PL
  unfold suC at *
  generalize w4.alloc (.cells #[.int .i64 y.st, .int .i64 y.v, .int .i64 y.wa, .int .i64 y.sq] 23) = W5 at *
  obtain ⟨c0, c1, c2, c3, cl⟩ := Y.out.cells
  obtain ⟨d0, d1, d2, d3, dl⟩ := Z.out.cells
  obtain ⟨o0, o1, o2, o3, ol⟩ := P.out.y.cells
  obtain ⟨p0, p1, p2, p3, pl⟩ := P.out.z.cells
  obtain ⟨f0, f1, f2, f3⟩ := P.out.y.fz
  obtain ⟨k0, k1, k2, k3⟩ := P.out.z.fz
  have : g2 ≠ g + 1 + 1 + 1 := by have := L2.out; omega
  have : g2 ≠ g + 1 + 1 + 1 + 1 := by have := L2.out; omega
  have : g4 ≠ g + 1 + 1 + 1 := by have := L4.out; omega
  have : g4 ≠ g + 1 + 1 + 1 + 1 := by have := L4.out; omega
  have hS0 : SuAt 28 W5.drew g2 y ∧ SuAt 23 W5.drew g4 y := ⟨Y.out.on (Below.refl _ _).drew, Z.out.on (Below.refl _ _).drew⟩
  clear c0 c1 c2 c3 cl d0 d1 d2 d3 dl
  refine wp_region_held_drew (S := fun V => SuAt 28 V g2 y ∧ SuAt 23 V g4 y) (by kernel_rfl) hS0 (fun hS => ?_)
  clear hS0
  refine tkYes 0 (v := ?_) rfl (by kernel_rfl) (fun _ _ _ h => h) rfl ?_ hS ?_
  rotate_left
  · intro W hW; obtain ⟨c0, c1, c2, c3, cl⟩ := hW.1.cells; go_simp; (try with_reducible rfl)
  simp only [Act.put, List.setIfInBounds_toArray, List.set_cons_zero, List.set_cons_succ]
  refine tkYes 1 (v := ?_) rfl (by kernel_rfl) (fun _ _ _ h => h) rfl ?_ hS ?_
  rotate_left
  · intro W hW; obtain ⟨c0, c1, c2, c3, cl⟩ := hW.2.cells; go_simp; (try with_reducible rfl)
  simp only [Act.put, List.setIfInBounds_toArray, List.set_cons_zero, List.set_cons_succ]
  refine tkYes 2 (v := ?_) rfl (by kernel_rfl) (fun _ _ _ h => h) rfl ?_ hS ?_
  rotate_left
  · intro W hW; go_simp; (try with_reducible rfl)
  simp only [Act.put, List.setIfInBounds_toArray, List.set_cons_zero, List.set_cons_succ]
  refine tkYes 3 (v := ?_) rfl (by kernel_rfl) (fun _ _ _ h => h) rfl ?_ hS ?_
  rotate_left
  · intro W hW; go_simp; (try with_reducible rfl)
  simp only [Act.put, List.setIfInBounds_toArray, List.set_cons_zero, List.set_cons_succ]
  refine tkYes 4 (v := ?_) rfl (by kernel_rfl) (fun _ _ _ h => h) rfl ?_ hS ?_
  rotate_left
  · intro W hW; go_simp; (try with_reducible rfl)
  simp only [Act.put, List.setIfInBounds_toArray, List.set_cons_zero, List.set_cons_succ]
  refine rnOne 5 rfl (by kernel_rfl) rfl (fun K hK => ?_)
  go_simp
  replace hS : SuAt 28 ((((W5.setCell ⟨g + 1 + 1 + 1, 0, none⟩ (.int .i64 y.st)).setCell ⟨g + 1 + 1 + 1, 1, none⟩ (.int .i64 y.v)).setCell ⟨g + 1 + 1 + 1, 2, none⟩ (.int .i64 y.wa)).setCell ⟨g + 1 + 1 + 1, 3, none⟩ (.int .i64 y.sq)).drew g2 y ∧ SuAt 23 ((((W5.setCell ⟨g + 1 + 1 + 1, 0, none⟩ (.int .i64 y.st)).setCell ⟨g + 1 + 1 + 1, 1, none⟩ (.int .i64 y.v)).setCell ⟨g + 1 + 1 + 1, 2, none⟩ (.int .i64 y.wa)).setCell ⟨g + 1 + 1 + 1, 3, none⟩ (.int .i64 y.sq)).drew g4 y := ⟨(set_apart (set_apart (set_apart (set_apart Y.out (by omega) 0 _) (by omega) 1 _) (by omega) 2 _) (by omega) 3 _).on (Below.refl _ _).drew, (set_apart (set_apart (set_apart (set_apart Z.out (by omega) 0 _) (by omega) 1 _) (by omega) 2 _) (by omega) 3 _).on (Below.refl _ _).drew⟩
  refine hK.out _ _ hS (fun _ => ?_)
  clear hK K
  try simp only [Act.put, List.setIfInBounds_toArray, List.set_cons_zero, List.set_cons_succ]
  refine rnOne 6 rfl (by kernel_rfl) rfl (fun K hK => ?_)
  go_simp
  replace hS : SuAt 28 ((((((((W5.setCell ⟨g + 1 + 1 + 1, 0, none⟩ (.int .i64 y.st)).setCell ⟨g + 1 + 1 + 1, 1, none⟩ (.int .i64 y.v)).setCell ⟨g + 1 + 1 + 1, 2, none⟩ (.int .i64 y.wa)).setCell ⟨g + 1 + 1 + 1, 3, none⟩ (.int .i64 y.sq)).setCell ⟨g + 1 + 1 + 1 + 1, 0, none⟩ (.int .i64 y.st)).setCell ⟨g + 1 + 1 + 1 + 1, 1, none⟩ (.int .i64 y.v)).setCell ⟨g + 1 + 1 + 1 + 1, 2, none⟩ (.int .i64 y.wa)).setCell ⟨g + 1 + 1 + 1 + 1, 3, none⟩ (.int .i64 y.sq)).drew g2 y ∧ SuAt 23 ((((((((W5.setCell ⟨g + 1 + 1 + 1, 0, none⟩ (.int .i64 y.st)).setCell ⟨g + 1 + 1 + 1, 1, none⟩ (.int .i64 y.v)).setCell ⟨g + 1 + 1 + 1, 2, none⟩ (.int .i64 y.wa)).setCell ⟨g + 1 + 1 + 1, 3, none⟩ (.int .i64 y.sq)).setCell ⟨g + 1 + 1 + 1 + 1, 0, none⟩ (.int .i64 y.st)).setCell ⟨g + 1 + 1 + 1 + 1, 1, none⟩ (.int .i64 y.v)).setCell ⟨g + 1 + 1 + 1 + 1, 2, none⟩ (.int .i64 y.wa)).setCell ⟨g + 1 + 1 + 1 + 1, 3, none⟩ (.int .i64 y.sq)).drew g4 y := ⟨(set_apart (set_apart (set_apart (set_apart (set_apart (set_apart (set_apart (set_apart Y.out (by omega) 0 _) (by omega) 1 _) (by omega) 2 _) (by omega) 3 _) (by omega) 0 _) (by omega) 1 _) (by omega) 2 _) (by omega) 3 _).on (Below.refl _ _).drew, (set_apart (set_apart (set_apart (set_apart (set_apart (set_apart (set_apart (set_apart Z.out (by omega) 0 _) (by omega) 1 _) (by omega) 2 _) (by omega) 3 _) (by omega) 0 _) (by omega) 1 _) (by omega) 2 _) (by omega) 3 _).on (Below.refl _ _).drew⟩
  refine hK.out _ _ hS (fun _ => ?_)
  clear hK K
  try simp only [Act.put, List.setIfInBounds_toArray, List.set_cons_zero, List.set_cons_succ]
  refine tkYes 7 (v := ?_) rfl (by kernel_rfl) (fun _ _ _ h => h) rfl ?_ hS ?_
  rotate_left
  · intro W hW; go_simp; (try with_reducible rfl)
  simp only [Act.put, List.setIfInBounds_toArray, List.set_cons_zero, List.set_cons_succ]
  refine wpAnyH_done (by kernel_rfl) ?_ _
  go_wp2_with fail
  exact su_ret3 Try.results9 ((P.out.fy y).fz y).drew rfl rfl rfl rfl
set_option maxHeartbeats 6400000 in
theorem sustep_2 (x : Su.S) (kd a b : Int) (hk : (IntKind.u64.wrap kd).tmod 5 = 2) (W : World) : Calls Try.prog 9 #[suV x, suV x, .int .i64 kd, .agg #[.int .i64 a, .int .i64 b]] W (StepPost W (Su.turn x 2 3)) := by
  obtain ⟨y, hy⟩ : ∃ y, y = Su.turn x 2 3 := ⟨_, rfl⟩
  obtain ⟨d, hd⟩ : ∃ d, d = decide (Su.turns x 2) := ⟨_, rfl⟩
  have CD : Hid (∀ W, Calls Try.prog 15 #[suV x] W (SuPost W y d)) := fun W => by rw [hy, hd]; exact sdhurt_is x W
  have CR : Hid (∀ W, Calls Try.prog 19 #[suV x, .int .i64 2, .int .i64 3] W (SuPost W y d)) := fun W => by rw [hy, hd]; exact rsturn_any x 2 3 W
  rw [← hy]
  clear hy hd
  obtain ⟨g, W1, hW, hg, p0⟩ := sp_new W x a b
  have HW := Lib.hid hW
  have HG := Lib.hid hg
  have P := Lib.hid p0
  clear hW hg p0
  unfold suV suC at *
  go_enter Try.func9, Try.ntmps9
  go_upto_region 1 with fail
  rw [← HW.out, ← HG.out]
  obtain ⟨c0, c1, c2, c3, cl⟩ := P.out.s.cells
  obtain ⟨d0, d1, d2, d3, dl⟩ := P.out.r.cells
  have n0 : W1.cell? ⟨g + 1 + 1, 0, none⟩ = some (.int .i64 a) := (by rw [cell_of_row W1 (g + 1 + 1) 0 _ _ _ P.out.n]; rfl)
  have n1 : W1.cell? ⟨g + 1 + 1, 1, none⟩ = some (.int .i64 b) := (by rw [cell_of_row W1 (g + 1 + 1) 1 _ _ _ P.out.n]; rfl)
  go_upto_region 12 with (go_at_call 15; (with_reducible refine (CD.out _).mono ?_); rintro e w2 ⟨rfl, hb⟩; replace P := Lib.hid (P.out.on hb); clear hb c0 c1 c2 c3 cl d0 d1 d2 d3 dl n0 n1)
  have PL := Lib.hid P.out.z.cells.2.2.2.2
  have hb := (Below.refl w2.heap.size w2).alloc (Nat.le_refl _) (.cells (suC y) 28)
  replace P := Lib.hid (P.out.on hb)
  have Y := Lib.hid (SuAt.new 28 w2 y)
  clear hb
  obtain ⟨g2, hg2⟩ : ∃ g, g = w2.heap.size := ⟨_, rfl⟩
  have L2 : Hid (g + 1 + 1 + 1 + 1 < g2) := by have h := PL.out; show _ < _; omega
  rw [← hg2] at Y ⊢
  have HG2 := Lib.hid hg2
  clear hg2 PL
  unfold suC at *
  generalize w2.alloc (.cells #[.int .i64 y.st, .int .i64 y.v, .int .i64 y.wa, .int .i64 y.sq] 28) = W3 at *
  obtain ⟨c0, c1, c2, c3, cl⟩ := P.out.s.cells
  obtain ⟨d0, d1, d2, d3, dl⟩ := P.out.r.cells
  have n0 : W3.cell? ⟨g + 1 + 1, 0, none⟩ = some (.int .i64 a) := (by rw [cell_of_row W3 (g + 1 + 1) 0 _ _ _ P.out.n]; rfl)
  have n1 : W3.cell? ⟨g + 1 + 1, 1, none⟩ = some (.int .i64 b) := (by rw [cell_of_row W3 (g + 1 + 1) 1 _ _ _ P.out.n]; rfl)
  go_upto_region 13 with (go_at_call 19; (with_reducible refine (CR.out _).mono ?_); rintro e w4 ⟨rfl, hb⟩; replace P := Lib.hid (P.out.on hb); replace Y := Lib.hid (Y.out.on hb); clear hb c0 c1 c2 c3 cl d0 d1 d2 d3 dl n0 n1)
  have PL := Lib.hid P.out.z.cells.2.2.2.2
  have hb := (Below.refl w4.heap.size w4).alloc (Nat.le_refl _) (.cells (suC y) 23)
  replace P := Lib.hid (P.out.on hb)
  replace Y := Lib.hid (Y.out.on hb)
  have Z := Lib.hid (SuAt.new 23 w4 y)
  clear hb
  obtain ⟨g4, hg4⟩ : ∃ g, g = w4.heap.size := ⟨_, rfl⟩
  have L4 : Hid (g + 1 + 1 + 1 + 1 < g4) := by have h := PL.out; show _ < _; omega
  rw [← hg4] at Z ⊢
  have HG4 := Lib.hid hg4
  clear hg4 PL
  unfold suC at *
  generalize w4.alloc (.cells #[.int .i64 y.st, .int .i64 y.v, .int .i64 y.wa, .int .i64 y.sq] 23) = W5 at *
  obtain ⟨c0, c1, c2, c3, cl⟩ := Y.out.cells
  obtain ⟨d0, d1, d2, d3, dl⟩ := Z.out.cells
  obtain ⟨o0, o1, o2, o3, ol⟩ := P.out.y.cells
  obtain ⟨p0, p1, p2, p3, pl⟩ := P.out.z.cells
  obtain ⟨f0, f1, f2, f3⟩ := P.out.y.fz
  obtain ⟨k0, k1, k2, k3⟩ := P.out.z.fz
  have : g2 ≠ g + 1 + 1 + 1 := by have := L2.out; omega
  have : g2 ≠ g + 1 + 1 + 1 + 1 := by have := L2.out; omega
  have : g4 ≠ g + 1 + 1 + 1 := by have := L4.out; omega
  have : g4 ≠ g + 1 + 1 + 1 + 1 := by have := L4.out; omega
  have hS0 : SuAt 28 W5.drew g2 y ∧ SuAt 23 W5.drew g4 y := ⟨Y.out.on (Below.refl _ _).drew, Z.out.on (Below.refl _ _).drew⟩
  clear c0 c1 c2 c3 cl d0 d1 d2 d3 dl
  refine wp_region_held_drew (S := fun V => SuAt 28 V g2 y ∧ SuAt 23 V g4 y) (by kernel_rfl) hS0 (fun hS => ?_)
  clear hS0
  refine tkYes 0 (v := ?_) rfl (by kernel_rfl) (fun _ _ _ h => h) rfl ?_ hS ?_
  rotate_left
  · intro W hW; obtain ⟨c0, c1, c2, c3, cl⟩ := hW.1.cells; go_simp; (try with_reducible rfl)
  simp only [Act.put, List.setIfInBounds_toArray, List.set_cons_zero, List.set_cons_succ]
  refine tkYes 1 (v := ?_) rfl (by kernel_rfl) (fun _ _ _ h => h) rfl ?_ hS ?_
  rotate_left
  · intro W hW; obtain ⟨c0, c1, c2, c3, cl⟩ := hW.2.cells; go_simp; (try with_reducible rfl)
  simp only [Act.put, List.setIfInBounds_toArray, List.set_cons_zero, List.set_cons_succ]
  refine tkYes 2 (v := ?_) rfl (by kernel_rfl) (fun _ _ _ h => h) rfl ?_ hS ?_
  rotate_left
  · intro W hW; go_simp; (try with_reducible rfl)
  simp only [Act.put, List.setIfInBounds_toArray, List.set_cons_zero, List.set_cons_succ]
  refine tkYes 3 (v := ?_) rfl (by kernel_rfl) (fun _ _ _ h => h) rfl ?_ hS ?_
  rotate_left
  · intro W hW; go_simp; (try with_reducible rfl)
  simp only [Act.put, List.setIfInBounds_toArray, List.set_cons_zero, List.set_cons_succ]
  refine tkYes 4 (v := ?_) rfl (by kernel_rfl) (fun _ _ _ h => h) rfl ?_ hS ?_
  rotate_left
  · intro W hW; go_simp; (try with_reducible rfl)
  simp only [Act.put, List.setIfInBounds_toArray, List.set_cons_zero, List.set_cons_succ]
  refine rnOne 5 rfl (by kernel_rfl) rfl (fun K hK => ?_)
  go_simp
  replace hS : SuAt 28 ((((W5.setCell ⟨g + 1 + 1 + 1, 0, none⟩ (.int .i64 y.st)).setCell ⟨g + 1 + 1 + 1, 1, none⟩ (.int .i64 y.v)).setCell ⟨g + 1 + 1 + 1, 2, none⟩ (.int .i64 y.wa)).setCell ⟨g + 1 + 1 + 1, 3, none⟩ (.int .i64 y.sq)).drew g2 y ∧ SuAt 23 ((((W5.setCell ⟨g + 1 + 1 + 1, 0, none⟩ (.int .i64 y.st)).setCell ⟨g + 1 + 1 + 1, 1, none⟩ (.int .i64 y.v)).setCell ⟨g + 1 + 1 + 1, 2, none⟩ (.int .i64 y.wa)).setCell ⟨g + 1 + 1 + 1, 3, none⟩ (.int .i64 y.sq)).drew g4 y := ⟨(set_apart (set_apart (set_apart (set_apart Y.out (by omega) 0 _) (by omega) 1 _) (by omega) 2 _) (by omega) 3 _).on (Below.refl _ _).drew, (set_apart (set_apart (set_apart (set_apart Z.out (by omega) 0 _) (by omega) 1 _) (by omega) 2 _) (by omega) 3 _).on (Below.refl _ _).drew⟩
  refine hK.out _ _ hS (fun _ => ?_)
  clear hK K
  try simp only [Act.put, List.setIfInBounds_toArray, List.set_cons_zero, List.set_cons_succ]
  refine rnOne 6 rfl (by kernel_rfl) rfl (fun K hK => ?_)
  go_simp
  replace hS : SuAt 28 ((((((((W5.setCell ⟨g + 1 + 1 + 1, 0, none⟩ (.int .i64 y.st)).setCell ⟨g + 1 + 1 + 1, 1, none⟩ (.int .i64 y.v)).setCell ⟨g + 1 + 1 + 1, 2, none⟩ (.int .i64 y.wa)).setCell ⟨g + 1 + 1 + 1, 3, none⟩ (.int .i64 y.sq)).setCell ⟨g + 1 + 1 + 1 + 1, 0, none⟩ (.int .i64 y.st)).setCell ⟨g + 1 + 1 + 1 + 1, 1, none⟩ (.int .i64 y.v)).setCell ⟨g + 1 + 1 + 1 + 1, 2, none⟩ (.int .i64 y.wa)).setCell ⟨g + 1 + 1 + 1 + 1, 3, none⟩ (.int .i64 y.sq)).drew g2 y ∧ SuAt 23 ((((((((W5.setCell ⟨g + 1 + 1 + 1, 0, none⟩ (.int .i64 y.st)).setCell ⟨g + 1 + 1 + 1, 1, none⟩ (.int .i64 y.v)).setCell ⟨g + 1 + 1 + 1, 2, none⟩ (.int .i64 y.wa)).setCell ⟨g + 1 + 1 + 1, 3, none⟩ (.int .i64 y.sq)).setCell ⟨g + 1 + 1 + 1 + 1, 0, none⟩ (.int .i64 y.st)).setCell ⟨g + 1 + 1 + 1 + 1, 1, none⟩ (.int .i64 y.v)).setCell ⟨g + 1 + 1 + 1 + 1, 2, none⟩ (.int .i64 y.wa)).setCell ⟨g + 1 + 1 + 1 + 1, 3, none⟩ (.int .i64 y.sq)).drew g4 y := ⟨(set_apart (set_apart (set_apart (set_apart (set_apart (set_apart (set_apart (set_apart Y.out (by omega) 0 _) (by omega) 1 _) (by omega) 2 _) (by omega) 3 _) (by omega) 0 _) (by omega) 1 _) (by omega) 2 _) (by omega) 3 _).on (Below.refl _ _).drew, (set_apart (set_apart (set_apart (set_apart (set_apart (set_apart (set_apart (set_apart Z.out (by omega) 0 _) (by omega) 1 _) (by omega) 2 _) (by omega) 3 _) (by omega) 0 _) (by omega) 1 _) (by omega) 2 _) (by omega) 3 _).on (Below.refl _ _).drew⟩
  refine hK.out _ _ hS (fun _ => ?_)
  clear hK K
  try simp only [Act.put, List.setIfInBounds_toArray, List.set_cons_zero, List.set_cons_succ]
  refine tkYes 7 (v := ?_) rfl (by kernel_rfl) (fun _ _ _ h => h) rfl ?_ hS ?_
  rotate_left
  · intro W hW; go_simp; (try with_reducible rfl)
  simp only [Act.put, List.setIfInBounds_toArray, List.set_cons_zero, List.set_cons_succ]
  refine wpAnyH_done (by kernel_rfl) ?_ _
  go_wp2_with fail
  exact su_ret3 Try.results9 ((P.out.fy y).fz y).drew rfl rfl rfl rfl
set_option maxHeartbeats 6400000 in
theorem sustep_3 (x : Su.S) (kd a b : Int) (hk : (IntKind.u64.wrap kd).tmod 5 = 3) (W : World) : Calls Try.prog 9 #[suV x, suV x, .int .i64 kd, .agg #[.int .i64 a, .int .i64 b]] W (StepPost W (Su.turn x 3 2)) := by
  obtain ⟨y, hy⟩ : ∃ y, y = Su.turn x 3 2 := ⟨_, rfl⟩
  obtain ⟨d, hd⟩ : ∃ d, d = decide (Su.turns x 3) := ⟨_, rfl⟩
  have CD : Hid (∀ W, Calls Try.prog 16 #[suV x] W (SuPost W y d)) := fun W => by rw [hy, hd]; exact sdheal_is x W
  have CR : Hid (∀ W, Calls Try.prog 19 #[suV x, .int .i64 3, .int .i64 2] W (SuPost W y d)) := fun W => by rw [hy, hd]; exact rsturn_any x 3 2 W
  rw [← hy]
  clear hy hd
  obtain ⟨g, W1, hW, hg, p0⟩ := sp_new W x a b
  have HW := Lib.hid hW
  have HG := Lib.hid hg
  have P := Lib.hid p0
  clear hW hg p0
  unfold suV suC at *
  go_enter Try.func9, Try.ntmps9
  go_upto_region 1 with fail
  rw [← HW.out, ← HG.out]
  obtain ⟨c0, c1, c2, c3, cl⟩ := P.out.s.cells
  obtain ⟨d0, d1, d2, d3, dl⟩ := P.out.r.cells
  have n0 : W1.cell? ⟨g + 1 + 1, 0, none⟩ = some (.int .i64 a) := (by rw [cell_of_row W1 (g + 1 + 1) 0 _ _ _ P.out.n]; rfl)
  have n1 : W1.cell? ⟨g + 1 + 1, 1, none⟩ = some (.int .i64 b) := (by rw [cell_of_row W1 (g + 1 + 1) 1 _ _ _ P.out.n]; rfl)
  go_upto_region 16 with (go_at_call 16; (with_reducible refine (CD.out _).mono ?_); rintro e w2 ⟨rfl, hb⟩; replace P := Lib.hid (P.out.on hb); clear hb c0 c1 c2 c3 cl d0 d1 d2 d3 dl n0 n1)
  have PL := Lib.hid P.out.z.cells.2.2.2.2
  have hb := (Below.refl w2.heap.size w2).alloc (Nat.le_refl _) (.cells (suC y) 28)
  replace P := Lib.hid (P.out.on hb)
  have Y := Lib.hid (SuAt.new 28 w2 y)
  clear hb
  obtain ⟨g2, hg2⟩ : ∃ g, g = w2.heap.size := ⟨_, rfl⟩
  have L2 : Hid (g + 1 + 1 + 1 + 1 < g2) := by have h := PL.out; show _ < _; omega
  rw [← hg2] at Y ⊢
  have HG2 := Lib.hid hg2
  clear hg2 PL
  unfold suC at *
  generalize w2.alloc (.cells #[.int .i64 y.st, .int .i64 y.v, .int .i64 y.wa, .int .i64 y.sq] 28) = W3 at *
  obtain ⟨c0, c1, c2, c3, cl⟩ := P.out.s.cells
  obtain ⟨d0, d1, d2, d3, dl⟩ := P.out.r.cells
  have n0 : W3.cell? ⟨g + 1 + 1, 0, none⟩ = some (.int .i64 a) := (by rw [cell_of_row W3 (g + 1 + 1) 0 _ _ _ P.out.n]; rfl)
  have n1 : W3.cell? ⟨g + 1 + 1, 1, none⟩ = some (.int .i64 b) := (by rw [cell_of_row W3 (g + 1 + 1) 1 _ _ _ P.out.n]; rfl)
  go_upto_region 17 with (go_at_call 19; (with_reducible refine (CR.out _).mono ?_); rintro e w4 ⟨rfl, hb⟩; replace P := Lib.hid (P.out.on hb); replace Y := Lib.hid (Y.out.on hb); clear hb c0 c1 c2 c3 cl d0 d1 d2 d3 dl n0 n1)
  have PL := Lib.hid P.out.z.cells.2.2.2.2
  have hb := (Below.refl w4.heap.size w4).alloc (Nat.le_refl _) (.cells (suC y) 23)
  replace P := Lib.hid (P.out.on hb)
  replace Y := Lib.hid (Y.out.on hb)
  have Z := Lib.hid (SuAt.new 23 w4 y)
  clear hb
  obtain ⟨g4, hg4⟩ : ∃ g, g = w4.heap.size := ⟨_, rfl⟩
  have L4 : Hid (g + 1 + 1 + 1 + 1 < g4) := by have h := PL.out; show _ < _; omega
  rw [← hg4] at Z ⊢
  have HG4 := Lib.hid hg4
  clear hg4 PL
  unfold suC at *
  generalize w4.alloc (.cells #[.int .i64 y.st, .int .i64 y.v, .int .i64 y.wa, .int .i64 y.sq] 23) = W5 at *
  obtain ⟨c0, c1, c2, c3, cl⟩ := Y.out.cells
  obtain ⟨d0, d1, d2, d3, dl⟩ := Z.out.cells
  obtain ⟨o0, o1, o2, o3, ol⟩ := P.out.y.cells
  obtain ⟨p0, p1, p2, p3, pl⟩ := P.out.z.cells
  obtain ⟨f0, f1, f2, f3⟩ := P.out.y.fz
  obtain ⟨k0, k1, k2, k3⟩ := P.out.z.fz
  have : g2 ≠ g + 1 + 1 + 1 := by have := L2.out; omega
  have : g2 ≠ g + 1 + 1 + 1 + 1 := by have := L2.out; omega
  have : g4 ≠ g + 1 + 1 + 1 := by have := L4.out; omega
  have : g4 ≠ g + 1 + 1 + 1 + 1 := by have := L4.out; omega
  have hS0 : SuAt 28 W5.drew g2 y ∧ SuAt 23 W5.drew g4 y := ⟨Y.out.on (Below.refl _ _).drew, Z.out.on (Below.refl _ _).drew⟩
  clear c0 c1 c2 c3 cl d0 d1 d2 d3 dl
  refine wp_region_held_drew (S := fun V => SuAt 28 V g2 y ∧ SuAt 23 V g4 y) (by kernel_rfl) hS0 (fun hS => ?_)
  clear hS0
  refine tkYes 0 (v := ?_) rfl (by kernel_rfl) (fun _ _ _ h => h) rfl ?_ hS ?_
  rotate_left
  · intro W hW; obtain ⟨c0, c1, c2, c3, cl⟩ := hW.1.cells; go_simp; (try with_reducible rfl)
  simp only [Act.put, List.setIfInBounds_toArray, List.set_cons_zero, List.set_cons_succ]
  refine tkYes 1 (v := ?_) rfl (by kernel_rfl) (fun _ _ _ h => h) rfl ?_ hS ?_
  rotate_left
  · intro W hW; obtain ⟨c0, c1, c2, c3, cl⟩ := hW.2.cells; go_simp; (try with_reducible rfl)
  simp only [Act.put, List.setIfInBounds_toArray, List.set_cons_zero, List.set_cons_succ]
  refine tkYes 2 (v := ?_) rfl (by kernel_rfl) (fun _ _ _ h => h) rfl ?_ hS ?_
  rotate_left
  · intro W hW; go_simp; (try with_reducible rfl)
  simp only [Act.put, List.setIfInBounds_toArray, List.set_cons_zero, List.set_cons_succ]
  refine tkYes 3 (v := ?_) rfl (by kernel_rfl) (fun _ _ _ h => h) rfl ?_ hS ?_
  rotate_left
  · intro W hW; go_simp; (try with_reducible rfl)
  simp only [Act.put, List.setIfInBounds_toArray, List.set_cons_zero, List.set_cons_succ]
  refine tkYes 4 (v := ?_) rfl (by kernel_rfl) (fun _ _ _ h => h) rfl ?_ hS ?_
  rotate_left
  · intro W hW; go_simp; (try with_reducible rfl)
  simp only [Act.put, List.setIfInBounds_toArray, List.set_cons_zero, List.set_cons_succ]
  refine rnOne 5 rfl (by kernel_rfl) rfl (fun K hK => ?_)
  go_simp
  replace hS : SuAt 28 ((((W5.setCell ⟨g + 1 + 1 + 1, 0, none⟩ (.int .i64 y.st)).setCell ⟨g + 1 + 1 + 1, 1, none⟩ (.int .i64 y.v)).setCell ⟨g + 1 + 1 + 1, 2, none⟩ (.int .i64 y.wa)).setCell ⟨g + 1 + 1 + 1, 3, none⟩ (.int .i64 y.sq)).drew g2 y ∧ SuAt 23 ((((W5.setCell ⟨g + 1 + 1 + 1, 0, none⟩ (.int .i64 y.st)).setCell ⟨g + 1 + 1 + 1, 1, none⟩ (.int .i64 y.v)).setCell ⟨g + 1 + 1 + 1, 2, none⟩ (.int .i64 y.wa)).setCell ⟨g + 1 + 1 + 1, 3, none⟩ (.int .i64 y.sq)).drew g4 y := ⟨(set_apart (set_apart (set_apart (set_apart Y.out (by omega) 0 _) (by omega) 1 _) (by omega) 2 _) (by omega) 3 _).on (Below.refl _ _).drew, (set_apart (set_apart (set_apart (set_apart Z.out (by omega) 0 _) (by omega) 1 _) (by omega) 2 _) (by omega) 3 _).on (Below.refl _ _).drew⟩
  refine hK.out _ _ hS (fun _ => ?_)
  clear hK K
  try simp only [Act.put, List.setIfInBounds_toArray, List.set_cons_zero, List.set_cons_succ]
  refine rnOne 6 rfl (by kernel_rfl) rfl (fun K hK => ?_)
  go_simp
  replace hS : SuAt 28 ((((((((W5.setCell ⟨g + 1 + 1 + 1, 0, none⟩ (.int .i64 y.st)).setCell ⟨g + 1 + 1 + 1, 1, none⟩ (.int .i64 y.v)).setCell ⟨g + 1 + 1 + 1, 2, none⟩ (.int .i64 y.wa)).setCell ⟨g + 1 + 1 + 1, 3, none⟩ (.int .i64 y.sq)).setCell ⟨g + 1 + 1 + 1 + 1, 0, none⟩ (.int .i64 y.st)).setCell ⟨g + 1 + 1 + 1 + 1, 1, none⟩ (.int .i64 y.v)).setCell ⟨g + 1 + 1 + 1 + 1, 2, none⟩ (.int .i64 y.wa)).setCell ⟨g + 1 + 1 + 1 + 1, 3, none⟩ (.int .i64 y.sq)).drew g2 y ∧ SuAt 23 ((((((((W5.setCell ⟨g + 1 + 1 + 1, 0, none⟩ (.int .i64 y.st)).setCell ⟨g + 1 + 1 + 1, 1, none⟩ (.int .i64 y.v)).setCell ⟨g + 1 + 1 + 1, 2, none⟩ (.int .i64 y.wa)).setCell ⟨g + 1 + 1 + 1, 3, none⟩ (.int .i64 y.sq)).setCell ⟨g + 1 + 1 + 1 + 1, 0, none⟩ (.int .i64 y.st)).setCell ⟨g + 1 + 1 + 1 + 1, 1, none⟩ (.int .i64 y.v)).setCell ⟨g + 1 + 1 + 1 + 1, 2, none⟩ (.int .i64 y.wa)).setCell ⟨g + 1 + 1 + 1 + 1, 3, none⟩ (.int .i64 y.sq)).drew g4 y := ⟨(set_apart (set_apart (set_apart (set_apart (set_apart (set_apart (set_apart (set_apart Y.out (by omega) 0 _) (by omega) 1 _) (by omega) 2 _) (by omega) 3 _) (by omega) 0 _) (by omega) 1 _) (by omega) 2 _) (by omega) 3 _).on (Below.refl _ _).drew, (set_apart (set_apart (set_apart (set_apart (set_apart (set_apart (set_apart (set_apart Z.out (by omega) 0 _) (by omega) 1 _) (by omega) 2 _) (by omega) 3 _) (by omega) 0 _) (by omega) 1 _) (by omega) 2 _) (by omega) 3 _).on (Below.refl _ _).drew⟩
  refine hK.out _ _ hS (fun _ => ?_)
  clear hK K
  try simp only [Act.put, List.setIfInBounds_toArray, List.set_cons_zero, List.set_cons_succ]
  refine tkYes 7 (v := ?_) rfl (by kernel_rfl) (fun _ _ _ h => h) rfl ?_ hS ?_
  rotate_left
  · intro W hW; go_simp; (try with_reducible rfl)
  simp only [Act.put, List.setIfInBounds_toArray, List.set_cons_zero, List.set_cons_succ]
  refine wpAnyH_done (by kernel_rfl) ?_ _
  go_wp2_with fail
  exact su_ret3 Try.results9 ((P.out.fy y).fz y).drew rfl rfl rfl rfl
set_option maxHeartbeats 6400000 in
theorem sustep_4 (x : Su.S) (kd a b : Int) (hk : (IntKind.u64.wrap kd).tmod 5 = 4) (W : World) : Calls Try.prog 9 #[suV x, suV x, .int .i64 kd, .agg #[.int .i64 a, .int .i64 b]] W (StepPost W (Su.fall x)) := by
  obtain ⟨y, hy⟩ : ∃ y, y = Su.fall x := ⟨_, rfl⟩
  obtain ⟨d, hd⟩ : ∃ d, d = decide (Su.falls x) := ⟨_, rfl⟩
  have CD : Hid (∀ W, Calls Try.prog 14 #[suV x] W (SuPost W y d)) := fun W => by rw [hy, hd]; exact sdfall_is x W
  have CR : Hid (∀ W, Calls Try.prog 20 #[suV x] W (SuPost W y d)) := fun W => by rw [hy, hd]; exact rsfall_any x W
  rw [← hy]
  clear hy hd
  obtain ⟨g, W1, hW, hg, p0⟩ := sp_new W x a b
  have HW := Lib.hid hW
  have HG := Lib.hid hg
  have P := Lib.hid p0
  clear hW hg p0
  unfold suV suC at *
  go_enter Try.func9, Try.ntmps9
  go_upto_region 1 with fail
  rw [← HW.out, ← HG.out]
  obtain ⟨c0, c1, c2, c3, cl⟩ := P.out.s.cells
  obtain ⟨d0, d1, d2, d3, dl⟩ := P.out.r.cells
  have n0 : W1.cell? ⟨g + 1 + 1, 0, none⟩ = some (.int .i64 a) := (by rw [cell_of_row W1 (g + 1 + 1) 0 _ _ _ P.out.n]; rfl)
  have n1 : W1.cell? ⟨g + 1 + 1, 1, none⟩ = some (.int .i64 b) := (by rw [cell_of_row W1 (g + 1 + 1) 1 _ _ _ P.out.n]; rfl)
  go_upto_region 19 with (go_at_call 14; (with_reducible refine (CD.out _).mono ?_); rintro e w2 ⟨rfl, hb⟩; replace P := Lib.hid (P.out.on hb); clear hb c0 c1 c2 c3 cl d0 d1 d2 d3 dl n0 n1)
  have PL := Lib.hid P.out.z.cells.2.2.2.2
  have hb := (Below.refl w2.heap.size w2).alloc (Nat.le_refl _) (.cells (suC y) 28)
  replace P := Lib.hid (P.out.on hb)
  have Y := Lib.hid (SuAt.new 28 w2 y)
  clear hb
  obtain ⟨g2, hg2⟩ : ∃ g, g = w2.heap.size := ⟨_, rfl⟩
  have L2 : Hid (g + 1 + 1 + 1 + 1 < g2) := by have h := PL.out; show _ < _; omega
  rw [← hg2] at Y ⊢
  have HG2 := Lib.hid hg2
  clear hg2 PL
  unfold suC at *
  generalize w2.alloc (.cells #[.int .i64 y.st, .int .i64 y.v, .int .i64 y.wa, .int .i64 y.sq] 28) = W3 at *
  obtain ⟨c0, c1, c2, c3, cl⟩ := P.out.s.cells
  obtain ⟨d0, d1, d2, d3, dl⟩ := P.out.r.cells
  have n0 : W3.cell? ⟨g + 1 + 1, 0, none⟩ = some (.int .i64 a) := (by rw [cell_of_row W3 (g + 1 + 1) 0 _ _ _ P.out.n]; rfl)
  have n1 : W3.cell? ⟨g + 1 + 1, 1, none⟩ = some (.int .i64 b) := (by rw [cell_of_row W3 (g + 1 + 1) 1 _ _ _ P.out.n]; rfl)
  go_upto_region 20 with (go_at_call 20; (with_reducible refine (CR.out _).mono ?_); rintro e w4 ⟨rfl, hb⟩; replace P := Lib.hid (P.out.on hb); replace Y := Lib.hid (Y.out.on hb); clear hb c0 c1 c2 c3 cl d0 d1 d2 d3 dl n0 n1)
  have PL := Lib.hid P.out.z.cells.2.2.2.2
  have hb := (Below.refl w4.heap.size w4).alloc (Nat.le_refl _) (.cells (suC y) 23)
  replace P := Lib.hid (P.out.on hb)
  replace Y := Lib.hid (Y.out.on hb)
  have Z := Lib.hid (SuAt.new 23 w4 y)
  clear hb
  obtain ⟨g4, hg4⟩ : ∃ g, g = w4.heap.size := ⟨_, rfl⟩
  have L4 : Hid (g + 1 + 1 + 1 + 1 < g4) := by have h := PL.out; show _ < _; omega
  rw [← hg4] at Z ⊢
  have HG4 := Lib.hid hg4
  clear hg4 PL
  unfold suC at *
  generalize w4.alloc (.cells #[.int .i64 y.st, .int .i64 y.v, .int .i64 y.wa, .int .i64 y.sq] 23) = W5 at *
  obtain ⟨c0, c1, c2, c3, cl⟩ := Y.out.cells
  obtain ⟨d0, d1, d2, d3, dl⟩ := Z.out.cells
  obtain ⟨o0, o1, o2, o3, ol⟩ := P.out.y.cells
  obtain ⟨p0, p1, p2, p3, pl⟩ := P.out.z.cells
  obtain ⟨f0, f1, f2, f3⟩ := P.out.y.fz
  obtain ⟨k0, k1, k2, k3⟩ := P.out.z.fz
  have : g2 ≠ g + 1 + 1 + 1 := by have := L2.out; omega
  have : g2 ≠ g + 1 + 1 + 1 + 1 := by have := L2.out; omega
  have : g4 ≠ g + 1 + 1 + 1 := by have := L4.out; omega
  have : g4 ≠ g + 1 + 1 + 1 + 1 := by have := L4.out; omega
  have hS0 : SuAt 28 W5.drew g2 y ∧ SuAt 23 W5.drew g4 y := ⟨Y.out.on (Below.refl _ _).drew, Z.out.on (Below.refl _ _).drew⟩
  clear c0 c1 c2 c3 cl d0 d1 d2 d3 dl
  refine wp_region_held_drew (S := fun V => SuAt 28 V g2 y ∧ SuAt 23 V g4 y) (by kernel_rfl) hS0 (fun hS => ?_)
  clear hS0
  refine tkYes 0 (v := ?_) rfl (by kernel_rfl) (fun _ _ _ h => h) rfl ?_ hS ?_
  rotate_left
  · intro W hW; obtain ⟨c0, c1, c2, c3, cl⟩ := hW.1.cells; go_simp; (try with_reducible rfl)
  simp only [Act.put, List.setIfInBounds_toArray, List.set_cons_zero, List.set_cons_succ]
  refine tkYes 1 (v := ?_) rfl (by kernel_rfl) (fun _ _ _ h => h) rfl ?_ hS ?_
  rotate_left
  · intro W hW; obtain ⟨c0, c1, c2, c3, cl⟩ := hW.2.cells; go_simp; (try with_reducible rfl)
  simp only [Act.put, List.setIfInBounds_toArray, List.set_cons_zero, List.set_cons_succ]
  refine tkYes 2 (v := ?_) rfl (by kernel_rfl) (fun _ _ _ h => h) rfl ?_ hS ?_
  rotate_left
  · intro W hW; go_simp; (try with_reducible rfl)
  simp only [Act.put, List.setIfInBounds_toArray, List.set_cons_zero, List.set_cons_succ]
  refine tkYes 3 (v := ?_) rfl (by kernel_rfl) (fun _ _ _ h => h) rfl ?_ hS ?_
  rotate_left
  · intro W hW; go_simp; (try with_reducible rfl)
  simp only [Act.put, List.setIfInBounds_toArray, List.set_cons_zero, List.set_cons_succ]
  refine tkYes 4 (v := ?_) rfl (by kernel_rfl) (fun _ _ _ h => h) rfl ?_ hS ?_
  rotate_left
  · intro W hW; go_simp; (try with_reducible rfl)
  simp only [Act.put, List.setIfInBounds_toArray, List.set_cons_zero, List.set_cons_succ]
  refine rnOne 5 rfl (by kernel_rfl) rfl (fun K hK => ?_)
  go_simp
  replace hS : SuAt 28 ((((W5.setCell ⟨g + 1 + 1 + 1, 0, none⟩ (.int .i64 y.st)).setCell ⟨g + 1 + 1 + 1, 1, none⟩ (.int .i64 y.v)).setCell ⟨g + 1 + 1 + 1, 2, none⟩ (.int .i64 y.wa)).setCell ⟨g + 1 + 1 + 1, 3, none⟩ (.int .i64 y.sq)).drew g2 y ∧ SuAt 23 ((((W5.setCell ⟨g + 1 + 1 + 1, 0, none⟩ (.int .i64 y.st)).setCell ⟨g + 1 + 1 + 1, 1, none⟩ (.int .i64 y.v)).setCell ⟨g + 1 + 1 + 1, 2, none⟩ (.int .i64 y.wa)).setCell ⟨g + 1 + 1 + 1, 3, none⟩ (.int .i64 y.sq)).drew g4 y := ⟨(set_apart (set_apart (set_apart (set_apart Y.out (by omega) 0 _) (by omega) 1 _) (by omega) 2 _) (by omega) 3 _).on (Below.refl _ _).drew, (set_apart (set_apart (set_apart (set_apart Z.out (by omega) 0 _) (by omega) 1 _) (by omega) 2 _) (by omega) 3 _).on (Below.refl _ _).drew⟩
  refine hK.out _ _ hS (fun _ => ?_)
  clear hK K
  try simp only [Act.put, List.setIfInBounds_toArray, List.set_cons_zero, List.set_cons_succ]
  refine rnOne 6 rfl (by kernel_rfl) rfl (fun K hK => ?_)
  go_simp
  replace hS : SuAt 28 ((((((((W5.setCell ⟨g + 1 + 1 + 1, 0, none⟩ (.int .i64 y.st)).setCell ⟨g + 1 + 1 + 1, 1, none⟩ (.int .i64 y.v)).setCell ⟨g + 1 + 1 + 1, 2, none⟩ (.int .i64 y.wa)).setCell ⟨g + 1 + 1 + 1, 3, none⟩ (.int .i64 y.sq)).setCell ⟨g + 1 + 1 + 1 + 1, 0, none⟩ (.int .i64 y.st)).setCell ⟨g + 1 + 1 + 1 + 1, 1, none⟩ (.int .i64 y.v)).setCell ⟨g + 1 + 1 + 1 + 1, 2, none⟩ (.int .i64 y.wa)).setCell ⟨g + 1 + 1 + 1 + 1, 3, none⟩ (.int .i64 y.sq)).drew g2 y ∧ SuAt 23 ((((((((W5.setCell ⟨g + 1 + 1 + 1, 0, none⟩ (.int .i64 y.st)).setCell ⟨g + 1 + 1 + 1, 1, none⟩ (.int .i64 y.v)).setCell ⟨g + 1 + 1 + 1, 2, none⟩ (.int .i64 y.wa)).setCell ⟨g + 1 + 1 + 1, 3, none⟩ (.int .i64 y.sq)).setCell ⟨g + 1 + 1 + 1 + 1, 0, none⟩ (.int .i64 y.st)).setCell ⟨g + 1 + 1 + 1 + 1, 1, none⟩ (.int .i64 y.v)).setCell ⟨g + 1 + 1 + 1 + 1, 2, none⟩ (.int .i64 y.wa)).setCell ⟨g + 1 + 1 + 1 + 1, 3, none⟩ (.int .i64 y.sq)).drew g4 y := ⟨(set_apart (set_apart (set_apart (set_apart (set_apart (set_apart (set_apart (set_apart Y.out (by omega) 0 _) (by omega) 1 _) (by omega) 2 _) (by omega) 3 _) (by omega) 0 _) (by omega) 1 _) (by omega) 2 _) (by omega) 3 _).on (Below.refl _ _).drew, (set_apart (set_apart (set_apart (set_apart (set_apart (set_apart (set_apart (set_apart Z.out (by omega) 0 _) (by omega) 1 _) (by omega) 2 _) (by omega) 3 _) (by omega) 0 _) (by omega) 1 _) (by omega) 2 _) (by omega) 3 _).on (Below.refl _ _).drew⟩
  refine hK.out _ _ hS (fun _ => ?_)
  clear hK K
  try simp only [Act.put, List.setIfInBounds_toArray, List.set_cons_zero, List.set_cons_succ]
  refine tkYes 7 (v := ?_) rfl (by kernel_rfl) (fun _ _ _ h => h) rfl ?_ hS ?_
  rotate_left
  · intro W hW; go_simp; (try with_reducible rfl)
  simp only [Act.put, List.setIfInBounds_toArray, List.set_cons_zero, List.set_cons_succ]
  refine wpAnyH_done (by kernel_rfl) ?_ _
  go_wp2_with fail
  exact su_ret3 Try.results9 ((P.out.fy y).fz y).drew rfl rfl rfl rfl
end Go.Proofs.Ytlkfbnafookjdaa
