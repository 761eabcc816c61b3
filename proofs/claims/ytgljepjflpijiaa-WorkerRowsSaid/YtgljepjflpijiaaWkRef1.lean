/-
  The document's worker (layer 16): Own, Count, Units, Report. No condition but that its numbers may be.
-/
import Derived.Test.YtgljepjflpijiaaWkMem
import Derived.Test.YtgljepjflpijiaaInts
import Derived.Test.YtgljepjflpijiaaNtR1
import Derived.Deep.QuietTactic
import Derived.BigQuiet
namespace Go.Proofs.Ytgljepjflpijiaa
open Go.RowKit Go.Deep
set_option linter.unusedSimpArgs false
set_option linter.unusedVariables false

theorem wk_box (W : World) (s : Wk.W) : ∃ g W1, W1 = W.alloc (.cells (Wk.cells s) 32) ∧ g = W.heap.size ∧ WkAt W1 g s ∧ Below W.heap.size W W1 := ⟨_, _, rfl, rfl, WkAt.new W s, (Below.refl _ _).alloc (Nat.le_refl _) _⟩
theorem rem_own {u m : Int} (h0 : 0 ≤ u) (h1 : u ≤ 15) (hm : 1 ≤ m) (hm2 : m ≤ 16) : wrap64 (u.tmod m) = u % m ∧ IntKind.i64.wrap (u.tmod m) = u % m := by
  have e : u.tmod m = u % m := Int.tmod_eq_emod_of_nonneg h0
  have a := Int.emod_nonneg u (b := m) (by omega)
  have b := Int.emod_lt_of_pos u (b := m) (by omega)
  rw [e]
  exact ⟨IntWalk.wrap64_in _ ⟨by omega, by omega⟩, IntWalk.i64_in _ (by omega)⟩
set_option maxHeartbeats 1600000 in
theorem rwown_is {s : Wk.W} {u : Int} {b : Bool} (hm : 1 ≤ s.many ∧ s.many ≤ 16) (hb : b = true ↔ Wk.own s u) (W : World) : Calls Try.prog 32 #[.agg (Wk.cells s), .int .i64 u] W (fun e w' => e = .returned (.bool b) ∧ Below W.heap.size W w') := by
  obtain ⟨g, W1, hW, hg, r0, b1⟩ := wk_box W s
  have HW := Lib.hid hW
  have HG := Lib.hid hg
  have B := Lib.hid b1
  have R := Lib.hid r0
  unfold Wk.own at hb
  obtain ⟨c0, c1, c2, cl⟩ := r0.cs
  clear hW hg b1 r0
  obtain ⟨hm1, hm2⟩ := hm
  by_cases h0 : u < 0
  · have n0 : decide (0 ≤ u) = false := decide_eq_false (by omega)
    obtain rfl : b = false := by rw [Bool.eq_false_iff]; intro e; have := hb.1 e; omega
    clear hb
    go_enter Try.func32, Try.ntmps32
    go_upto_region 1 with fail
    rw [← HW.out, ← HG.out]
    go_quiet (fail)
    go_wp2_with fail
    go_ret
    exact ⟨rfl, below_drewN B.out _⟩
  · have n0 : decide (0 ≤ u) = true := decide_eq_true (by omega)
    by_cases h1 : 15 < u
    · have n1 : decide (u ≤ 15) = false := decide_eq_false (by omega)
      obtain rfl : b = false := by rw [Bool.eq_false_iff]; intro e; have := hb.1 e; omega
      clear hb
      go_enter Try.func32, Try.ntmps32
      go_upto_region 1 with fail
      rw [← HW.out, ← HG.out]
      go_quiet (fail)
      go_wp2_with fail
      go_ret
      exact ⟨rfl, below_drewN B.out _⟩
    · have n1 : decide (u ≤ 15) = true := decide_eq_true (by omega)
      obtain ⟨e1, e2⟩ := rem_own (u := u) (m := s.many) (by omega) (by omega) hm1 hm2
      have eb : (u % s.many == s.n) = b := by
        rw [Bool.eq_iff_iff, hb, beq_iff_eq]
        exact ⟨fun h => ⟨by omega, by omega, h⟩, fun h => h.2.2⟩
      have EB := Lib.hid eb
      clear hb eb
      have hm0 : s.many ≠ 0 := by omega
      go_enter Try.func32, Try.ntmps32
      go_upto_region 1 with fail
      rw [← HW.out, ← HG.out]
      go_quiet (fail)
      go_wp2_with fail
      go_ret
      exact ⟨ret_bool EB.out, below_drewN B.out _⟩
/-- A whole message stored, cell by cell. -/
theorem nt_put {W w : World} {g : Nat} {m : Nt.M} (h : NtAt w g m) (hb : Below W.heap.size W w) (hq : W.heap.size ≤ g) (x : Nt.M) : NtAt ((((((w.setCell ⟨g, 0, none⟩ (.int .i64 x.k)).setCell ⟨g, 1, none⟩ (.int .i64 x.e)).setCell ⟨g, 2, none⟩ (.int .i64 x.s)).setCell ⟨g, 3, none⟩ (.int .i64 x.u)).setCell ⟨g, 4, none⟩ (.int .i64 x.v)).setCell ⟨g, 5, none⟩ (.int .i64 x.t)) g x ∧ Below W.heap.size W ((((((w.setCell ⟨g, 0, none⟩ (.int .i64 x.k)).setCell ⟨g, 1, none⟩ (.int .i64 x.e)).setCell ⟨g, 2, none⟩ (.int .i64 x.s)).setCell ⟨g, 3, none⟩ (.int .i64 x.u)).setCell ⟨g, 4, none⟩ (.int .i64 x.v)).setCell ⟨g, 5, none⟩ (.int .i64 x.t)) := by
  refine ⟨⟨?_⟩, (((((hb.setCell hq _).setCell hq _).setCell hq _).setCell hq _).setCell hq _).setCell hq _⟩
  exact heap_setCell_same _ g 5 _ _ _ (heap_setCell_same _ g 4 _ _ _ (heap_setCell_same _ g 3 _ _ _ (heap_setCell_same _ g 2 _ _ _ (heap_setCell_same _ g 1 _ _ _ (heap_setCell_same w g 0 _ _ _ h.row)))))
/-- A block of the call's own turned: what lay there at first stays. -/
theorem below_row {W w w' : World} {q : Nat} (h : Below W.heap.size W w) (hg : w.grownBy w' (some q)) (hq : W.heap.size ≤ q) : Below W.heap.size W w' :=
  h.trans ⟨hg.os, hg.tape, hg.output, hg.size, fun i hi => hg.block i (by have := h.size; omega) (fun e => by injection e with e; omega)⟩
theorem wk_two (W : World) (s : Wk.W) (o : Obj) : ∃ g W1, W1 = (W.alloc (.cells (Wk.cells s) 32)).alloc o ∧ g = W.heap.size ∧ WkAt W1 g s ∧ W1.heap[g + 1]? = some o ∧ Below W.heap.size W W1 := by
  refine ⟨_, _, rfl, rfl, (WkAt.new W s).on ((Below.refl _ _).alloc (Nat.le_refl _) _), ?_, ((Below.refl W.heap.size W).alloc (Nat.le_refl _) _).alloc (by simp) _⟩
  have := heap_alloc_new (W.alloc (.cells (Wk.cells s) 32)) o
  rw [show (W.alloc (.cells (Wk.cells s) 32)).heap.size = W.heap.size + 1 from by simp] at this
  exact this
set_option maxHeartbeats 3200000 in
theorem rwreport_any {s : Wk.W} (u : Int) (hm : 1 ≤ s.many ∧ s.many ≤ 16) (W : World) : Calls Try.prog 31 #[.agg (Wk.cells s), .int .i64 u] W (fun e w' => e = .returned (.tuple #[Nt.val (Wk.report s u), .bool (decide (Wk.own s u))]) ∧ Below W.heap.size W w') := by
  obtain ⟨g, W1, hW, hg, r0, n0, b1⟩ := wk_two W s (.cells #[.int .i64 0, .int .i64 0, .int .i64 0, .int .i64 0, .int .i64 0, .int .i64 0] 38)
  have HW := Lib.hid hW
  have HG := Lib.hid hg
  have B := Lib.hid b1
  have R := Lib.hid r0
  have N : Hid (NtAt W1 (g + 1) Nt.zero) := ⟨n0⟩
  have CO := Lib.hid (fun W => rwown_is (s := s) (u := u) (b := decide (Wk.own s u)) hm (by simp) W)
  have NB : Hid (W.heap.size ≤ g) := Nat.le_of_eq hg.symm
  clear hW hg b1 r0 n0 hm
  by_cases ho : Wk.own s u
  · obtain ⟨hj, hju⟩ := Wk.own_lt ho
    have ER : Hid (Wk.report s u = ⟨2, s.seen, (s.l u.toNat).sq, u, (s.l u.toNat).v, (s.l u.toNat).st⟩) := if_pos ho
    rw [ER.out, decide_eq_true ho]
    rw [decide_eq_true ho] at CO
    generalize u.toNat = j at *
    subst hju
    clear ho ER
    go_enter Try.func31, Try.ntmps31
    go_upto_region 1 with fail
    rw [← HW.out, ← HG.out]
    go_upto_region 4 with (first
      | ((with_reducible show wpList _ _ _ ({ dst := some 8, op := .load _ _, type := _, pos := _, after := _, guard := _ } :: _) _ _); refine wpList_load_wk rfl (.tmp 2) rfl rfl R.out ?_)
      | (go_at_call 32; (with_reducible refine (CO.out _).mono ?_); rintro e w2 ⟨rfl, hb⟩; replace R := Lib.hid (R.out.on hb); replace N := Lib.hid (N.out.on hb); replace B := Lib.hid (B.out.trans (hb.mono B.out.size)); clear hb))
    obtain ⟨d0, d1, d2, d3⟩ := R.out.slot hj
    obtain ⟨c0, c1, c2, cl⟩ := R.out.cs
    have hj2 : (j : Int) < 16 := by omega
    go_upto_region 5 with fail
    have X := Lib.hid (SuAt.new 29 w2 (s.l j))
    have hb := (Below.refl w2.heap.size w2).alloc (Nat.le_refl _) (.cells (suC (s.l j)) 29)
    replace R := Lib.hid (R.out.on hb)
    replace N := Lib.hid (N.out.on hb)
    replace B := Lib.hid (B.out.trans (hb.mono B.out.size))
    obtain ⟨gx, hgx⟩ : ∃ g, g = w2.heap.size := ⟨_, rfl⟩
    rw [← hgx] at X ⊢
    clear hb hgx c0 c1 c2 cl d0 d1 d2 d3
    unfold suC at X
    generalize w2.alloc (.cells #[.int .i64 (s.l j).st, .int .i64 (s.l j).v, .int .i64 (s.l j).wa, .int .i64 (s.l j).sq] 29) = w3 at *
    obtain ⟨c0, c1, c2, cl⟩ := R.out.cs
    obtain ⟨d0, d1, d2, d3, dl⟩ := X.out.cells
    obtain ⟨y0, y1, y2, y3, y4, y5, yl⟩ := N.out.cs
    have fz : ∀ i, w3.frozen? ⟨g + 1, i, none⟩ = false := fun i => frozen_of_row _ _ _ _ _ N.out.row
    go_wp2_with fail
    have E := nt_put N.out B.out (by have := NB.out; omega) ⟨2, s.seen, (s.l j).sq, (j : Nat), (s.l j).v, (s.l j).st⟩
    exact bodyPost_ret (v := .tuple #[Nt.val ⟨2, s.seen, (s.l j).sq, (j : Nat), (s.l j).v, (s.l j).st⟩, .bool true]) (msg_results2 Try.results31 _ _ rfl E.1) rfl ⟨rfl, E.2⟩
  · rw [decide_eq_false ho] at CO ⊢
    have ER : Hid (Wk.report s u = Nt.zero) := if_neg ho
    rw [ER.out]
    clear ho ER
    go_enter Try.func31, Try.ntmps31
    go_upto_region 1 with fail
    rw [← HW.out, ← HG.out]
    go_upto_region 3 with (first
      | ((with_reducible show wpList _ _ _ ({ dst := some 8, op := .load _ _, type := _, pos := _, after := _, guard := _ } :: _) _ _); refine wpList_load_wk rfl (.tmp 2) rfl rfl R.out ?_)
      | (go_at_call 32; (with_reducible refine (CO.out _).mono ?_); rintro e w2 ⟨rfl, hb⟩; replace R := Lib.hid (R.out.on hb); replace N := Lib.hid (N.out.on hb); replace B := Lib.hid (B.out.trans (hb.mono B.out.size)); clear hb))
    obtain ⟨y0, y1, y2, y3, y4, y5, yl⟩ := N.out.cs
    have fz : ∀ i, w2.frozen? ⟨g + 1, i, none⟩ = false := fun i => frozen_of_row _ _ _ _ _ N.out.row
    go_wp2_with fail
    have E := nt_put N.out B.out (by have := NB.out; omega) Nt.zero
    exact bodyPost_ret (v := .tuple #[Nt.val Nt.zero, .bool false]) (msg_results2 Try.results31 _ _ rfl E.1) rfl ⟨rfl, E.2⟩
end Go.Proofs.Ytgljepjflpijiaa
