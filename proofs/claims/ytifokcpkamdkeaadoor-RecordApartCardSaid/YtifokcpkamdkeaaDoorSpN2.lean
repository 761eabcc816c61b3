/-
  The developers' package spec: its numbers as a list.
-/
import Derived.Test.YtifokcpkamdkeaaDoorSpN1
import Derived.Laws.MakeOwn
namespace Go.Proofs.YtifokcpkamdkeaaDoor
open Go.RowKit

theorem mk12 (w : World) : ∃ w', (Instr.makeSlice 44 (.int .i64 0) (.int .i64 12)).run Tryd.prog w = .ok (.slice (some ⟨w.heap.size, 0, none⟩) 0 12) w' ∧ OwnI w' w.heap.size (.slice (some ⟨w.heap.size, 0, none⟩) 0 12) [] ∧ Below w.heap.size w w' := by
  obtain ⟨i0, hi0, hz0, hz1, hz2⟩ := info_parts info_int
  obtain ⟨w', h1, h2, h3⟩ := run_make_own w w.heap.size 44 3 i0 _ _ Tryd.underlying44 hi0 hz0 hz1 .i64 .i64 12 (by rw [hz2]; decide) (by unfold maxLen; omega) (Nat.le_refl _)
  exact ⟨w', h1, h2, ⟨h3.os, h3.tape, h3.output, h3.size, fun k hk => h3.block k hk (by simp)⟩⟩
set_option maxRecDepth 100000 in
set_option maxHeartbeats 1600000 in
theorem fields_any (s : Spc.Sp) (w : World) : Calls Tryd.prog 20 #[Spc.val s] w fun e w' => ∃ A c, e = .returned (.slice A 12 c) ∧ OwnI w' w.heap.size (.slice A 12 c) (Spc.flds s) ∧ Below w.heap.size w w' := by
  have hb := (Below.refl w.heap.size w).alloc (Nat.le_refl _) (.cells (Spc.cells s) 24)
  have A1 := Lib.hid (spAt_of (heap_alloc_new w (.cells (Spc.cells s) 24)))
  have B1 := Lib.hid hb
  have hz : w.heap.size < (w.alloc (.cells (Spc.cells s) 24)).heap.size := by simp
  have Z1 := Lib.hid hz
  obtain ⟨g, hg⟩ : ∃ g, g = w.heap.size := ⟨_, rfl⟩
  obtain ⟨gm, hgm⟩ : ∃ gm, gm = (w.alloc (.cells (Spc.cells s) 24)).heap.size := ⟨_, rfl⟩
  obtain ⟨w2, hr2, ho2, hb2⟩ := mk12 (w.alloc (.cells (Spc.cells s) 24))
  have CN : Hid (∀ g W, Calls Tryd.prog 41 #[.pointer (some ⟨g, 0, none⟩)] W fun e w' => e = .returned (.agg (ptrs g)) ∧ Below W.heap.size W w') := numbers_any
  rw [← hgm] at hr2 ho2 hb2 Z1
  rw [← hg] at A1 Z1
  have O2 := Lib.hid ho2
  have B2 := Lib.hid hb2
  have GM := Lib.hid hgm
  have G := Lib.hid hg
  clear hb hz ho2 hb2 hgm hg
  unfold Spc.val
  go_enter Tryd.func20, Tryd.ntmps20
  go_wp2_with fail
  clear hr2
  rw [← G.out]
  generalize w.alloc (.cells (Spc.cells s) 24) = w1 at *
  refine (CN.out g w2).mono ?_
  rintro e w3 ⟨rfl, hb3⟩
  have hs2 : gm ≤ w2.heap.size := by rw [GM.out]; exact B2.out.size
  have O3 := Lib.hid (O2.out.below hb3)
  have B3 := Lib.hid (B2.out.trans (hb3.mono hs2))
  clear hb3 hs2 O2 B2 CN
  go_wp2_with fail
  go_loopw [3, 8] (fun v i wr => ∃ (j : Nat) (l : List Int), j ≤ 12 ∧ i = .int .i64 (j : Nat) ∧ l = (Spc.flds s).take j ∧ OwnI wr gm v l ∧ Below gm w1 wr) (fun _ i _ => 12 - (intOf i).toNat)
  case atStart => exact ⟨0, [], by omega, rfl, rfl, O3.out, B3.out⟩
  case round =>
    obtain ⟨j, l, hj, rfl, hl, ho, hbr⟩ := hrel
    have O := Lib.hid ho
    have B := Lib.hid hbr
    have HL := Lib.hid hl
    have AX := Lib.hid (A1.out.below (w' := wr) (by rw [← GM.out]; exact Z1.out) (by rw [← GM.out]; exact B.out))
    have hll : l.length ≤ 12 := by rw [hl, List.length_take]; have := Spc.flds_length s; omega
    have hbase : gm ≤ wr.heap.size := by rw [GM.out]; exact hbr.size
    clear ho hbr hl
    by_cases hlt : j < 12
    · have hpj := fun W => ptrs_run g j hlt W
      have hcj := sp_at AX.out hlt
      have HN : Hid (∀ x, x = (Spc.flds s).getD j 0 → l ++ [x] = (Spc.flds s).take (j + 1)) := fun x hx => by
        have : j < (Spc.flds s).length := hlt
        rw [List.take_succ_eq_append_getElem this, HL.out, hx, getD_at this]
      obtain ⟨x, hx⟩ : ∃ x, x = (Spc.flds s).getD j 0 := ⟨_, rfl⟩
      rw [← hx] at hcj
      have HX := Lib.hid hx
      have i1 : (0 : Int) ≤ (j : Int) := by omega
      have i2 : (j : Int) < 12 := by omega
      clear hx
      go_wp2_with (at_builtin; refine wpList_append_num rfl (.tmp 11) (.tmp 15) rfl gm _ l rfl O.out _ rfl (by omega) hbase ?_; intro v3 w4 ho4 hg4; have O4 := Lib.hid ho4; have B4 := Lib.hid (B.out.grown hg4 hbase (own_base O.out)); clear ho4 hg4)
      exact ⟨⟨j + 1, l ++ [x], by omega, by go_num, HN.out x HX.out, O4.out, B4.out⟩, by simp [intOf]; omega⟩
    · obtain rfl : j = 12 := by omega
      have E : Hid (l = Spc.flds s) := by show _ = _; rw [HL.out]; exact List.take_of_length_le (Nat.le_refl _)
      go_wp2_with fail
      go_ret
      obtain ⟨A', c', ev, _⟩ := O.out.sl
      rw [E.out] at ev
      have ho := O.out
      rw [E.out] at ho
      exact ⟨A', c', by rw [ev]; rfl, own_lower (B := gm) (by have h := ho; rw [ev] at h; exact h) (by rw [GM.out]; exact B1.out.size), B1.out.trans (B.out.mono (by rw [GM.out]; exact B1.out.size))⟩
end Go.Proofs.YtifokcpkamdkeaaDoor
