/-
  Steps of layer 16's laws: by value, kind, msg; rows of them. No condition.
-/
import Derived.Test.YtgljepjflpijiaaWkRef3
import Derived.Test.YtgljepjflpijiaaSuUm
import Derived.Test.YtgljepjflpijiaaNtR2
import Derived.Test.YtgljepjflpijiaaRowsG
namespace Go.Proofs.Ytgljepjflpijiaa
open Go.RowKit Go.Deep
set_option linter.unusedSimpArgs false
set_option linter.unusedVariables false
set_option maxRecDepth 100000

/-- A step: what kind, of which unit, with which message. -/
structure WStep where
  k : Int
  u : Int
  m : Nt.M
structure WStep.In (s : WStep) : Prop where
  k : Nt.i64 s.k
  u : Nt.i64 s.u
  m : Nt.In s.m
abbrev wsC (s : WStep) : Array Value := #[.int .i64 s.k, .int .i64 s.u, .int .i64 s.m.k, .int .i64 s.m.e, .int .i64 s.m.s, .int .i64 s.m.u, .int .i64 s.m.v, .int .i64 s.m.t]
abbrev wsV (s : WStep) : Value := .agg (wsC s)
/-- The step's command. -/
def WStep.cmd (s : WStep) : Nt.M := if s.u % 7 = 0 then s.m else ⟨1, (Nt.good s.m).e, (Nt.good s.m).s, (Nt.good s.m).u, (Nt.good s.m).v, (Nt.good s.m).t⟩
theorem wkind_any (s : WStep) (W : World) : Calls Try.prog 26 #[wsV s] W (fun e w' => e = .returned (.int .i64 (Su.um s.k 6)) ∧ Below W.heap.size W w') := by
  have B1 := Lib.hid ((Below.refl W.heap.size W).alloc (Nat.le_refl _) (.cells (wsC s) 40))
  have e1 := Su.um_is s.k (n := 6) (by omega) (by omega)
  go_enter Try.func26, Try.ntmps26
  go_wp2_with fail
  go_ret
  exact ⟨by first | rfl | (rw [← e1]; rfl), B1.out⟩
theorem seven (u : Int) : u.tmod 7 = 0 ↔ u % 7 = 0 := by
  constructor
  · intro h
    have := Int.mul_tdiv_add_tmod u 7
    omega
  · intro h
    obtain ⟨k, rfl⟩ : ∃ k, u = 7 * k := ⟨u / 7, by omega⟩
    exact Int.mul_tmod_right 7 k
set_option maxHeartbeats 1600000 in
theorem wmsg_any (s : WStep) (hs : s.In) (W : World) : Calls Try.prog 28 #[wsV s] W (fun e w' => e = .returned (Nt.val s.cmd) ∧ Below W.heap.size W w') := by
  obtain ⟨W1, hW⟩ : ∃ W1, W1 = (W.alloc (.cells (wsC s) 40)).alloc (.cells #[.int .i64 0, .int .i64 0, .int .i64 0, .int .i64 0, .int .i64 0, .int .i64 0] 38) := ⟨_, rfl⟩
  obtain ⟨r0, n0, b1, z1⟩ := two_new hW
  obtain ⟨g, hg⟩ : ∃ g, g = W.heap.size := ⟨_, rfl⟩
  rw [← hg] at r0 n0
  have HW := Lib.hid hW
  have HG := Lib.hid hg
  have B := Lib.hid b1
  have R : Hid (W1.heap[g]? = some (.cells (wsC s) 40 (0, 0))) := r0
  have N : Hid (NtAt W1 (g + 1) Nt.zero) := ⟨n0⟩
  have NB : Hid (W.heap.size ≤ g) := Nat.le_of_eq hg.symm
  have SV := seven s.u
  have c1 : W1.cell? ⟨g, 1, none⟩ = some (.int .i64 s.u) := by rw [cell_of_row W1 g 1 _ _ _ r0]; rfl
  have c2 : W1.cell? ⟨g, 2, none⟩ = some (.int .i64 s.m.k) := by rw [cell_of_row W1 g 2 _ _ _ r0]; rfl
  have c3 : W1.cell? ⟨g, 3, none⟩ = some (.int .i64 s.m.e) := by rw [cell_of_row W1 g 3 _ _ _ r0]; rfl
  have c4 : W1.cell? ⟨g, 4, none⟩ = some (.int .i64 s.m.s) := by rw [cell_of_row W1 g 4 _ _ _ r0]; rfl
  have c5 : W1.cell? ⟨g, 5, none⟩ = some (.int .i64 s.m.u) := by rw [cell_of_row W1 g 5 _ _ _ r0]; rfl
  have c6 : W1.cell? ⟨g, 6, none⟩ = some (.int .i64 s.m.v) := by rw [cell_of_row W1 g 6 _ _ _ r0]; rfl
  have c7 : W1.cell? ⟨g, 7, none⟩ = some (.int .i64 s.m.t) := by rw [cell_of_row W1 g 7 _ _ _ r0]; rfl
  obtain ⟨y0, y1, y2, y3, y4, y5, yl⟩ := N.out.cs
  have fz : ∀ i, W1.frozen? ⟨g + 1, i, none⟩ = false := fun i => frozen_of_row _ _ _ _ _ N.out.row
  have G1 := Lib.hid (fun W => rtgood_any s.m W)
  clear hW hg r0 n0 b1 z1 hs
  by_cases h7 : s.u % 7 = 0
  · have e7 : (s.u.tmod 7 == 0) = true := by rw [beq_iff_eq]; exact SV.2 h7
    have EC : Hid (s.cmd = s.m) := if_pos h7
    rw [EC.out]
    clear SV h7 EC
    go_enter Try.func28, Try.ntmps28
    go_upto_region 1 with fail
    rw [← HW.out, ← HG.out]
    go_wp2_with fail
    have E := nt_put N.out B.out (by have := NB.out; omega) s.m
    exact bodyPost_ret (v := Nt.val s.m) (msg_results Try.results28 _ _ rfl E.1) rfl ⟨rfl, E.2⟩
  · have e7 : (s.u.tmod 7 == 0) = false := by rw [beq_eq_false_iff_ne]; exact fun h => h7 (SV.1 h)
    have EC : Hid (s.cmd = ⟨1, (Nt.good s.m).e, (Nt.good s.m).s, (Nt.good s.m).u, (Nt.good s.m).v, (Nt.good s.m).t⟩) := if_neg h7
    rw [EC.out]
    clear SV h7 EC
    generalize Nt.good s.m = x at *
    go_enter Try.func28, Try.ntmps28
    go_upto_region 1 with fail
    rw [← HW.out, ← HG.out]
    go_upto_region 4 with (go_at_call 14; (with_reducible refine (G1.out _).mono ?_); rintro e w2 ⟨rfl, hb⟩; replace N := Lib.hid (N.out.on hb); replace B := Lib.hid (B.out.trans (hb.mono B.out.size)); clear hb y0 y1 y2 y3 y4 y5 yl fz c1 c2 c3 c4 c5 c6 c7)
    have hb := (Below.refl w2.heap.size w2).alloc (Nat.le_refl _) (.cells (Nt.cs x) 38)
    have X : Hid (NtAt (w2.alloc (.cells (Nt.cs x) 38)) w2.heap.size x) := NtAt.new w2 x
    have PL := Lib.hid N.out.cs.lt
    replace N := Lib.hid (N.out.on hb)
    replace B := Lib.hid (B.out.trans (hb.mono B.out.size))
    obtain ⟨gx, hgx⟩ : ∃ gx, gx = w2.heap.size := ⟨_, rfl⟩
    have GX : Hid (g + 1 < gx) := by have h := PL.out; show _ < _; omega
    rw [← hgx] at X ⊢
    clear hb hgx PL
    generalize w2.alloc (.cells #[.int .i64 x.k, .int .i64 x.e, .int .i64 x.s, .int .i64 x.u, .int .i64 x.v, .int .i64 x.t] 38) = w3 at *
    obtain ⟨x0, x1, x2, x3, x4, x5, xl⟩ := X.out.cs
    have fx : ∀ i, w3.frozen? ⟨gx, i, none⟩ = false := fun i => frozen_of_row _ _ _ _ _ X.out.row
    go_upto_region 5 with fail
    have X4 : Hid (NtAt (w3.setCell ⟨gx, 0, none⟩ (.int .i64 1)) gx ⟨1, x.e, x.s, x.u, x.v, x.t⟩) := ⟨heap_setCell_same w3 gx 0 _ _ _ X.out.row⟩
    have N4 : Hid (NtAt (w3.setCell ⟨gx, 0, none⟩ (.int .i64 1)) (g + 1) Nt.zero) := N.out.keep (Below.heap_setCell _ _ _ _ (by have := GX.out; simp; omega))
    have B4 := Lib.hid (B.out.setCell (p := ⟨gx, 0, none⟩) (by have := GX.out; have := NB.out; show _ ≤ gx; omega) (.int .i64 1))
    clear x0 x1 x2 x3 x4 x5 xl fx X N B
    generalize w3.setCell ⟨gx, 0, none⟩ (.int .i64 1) = w4 at *
    obtain ⟨x0, x1, x2, x3, x4, x5, xl⟩ := X4.out.cs
    obtain ⟨y0, y1, y2, y3, y4, y5, yl⟩ := N4.out.cs
    have fz : ∀ i, w4.frozen? ⟨g + 1, i, none⟩ = false := fun i => frozen_of_row _ _ _ _ _ N4.out.row
    go_wp2_with fail
    have E := nt_put N4.out B4.out (by have := NB.out; omega) ⟨1, x.e, x.s, x.u, x.v, x.t⟩
    exact bodyPost_ret (v := Nt.val ⟨1, x.e, x.s, x.u, x.v, x.t⟩) (msg_results Try.results28 _ _ rfl E.1) rfl ⟨rfl, E.2⟩
end Go.Proofs.Ytgljepjflpijiaa
