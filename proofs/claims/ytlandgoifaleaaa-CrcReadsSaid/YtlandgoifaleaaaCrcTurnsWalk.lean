/-
  The walks of the statements CrcTurns and CrcSwaps.
-/
import Derived.Test.YtlandgoifaleaaaCrcTurn
import Derived.RegionTactic
import Derived.BigRegion
import Derived.Deep.RegionWith
import Derived.Deep.QuietTactic
import Derived.BigQuiet
namespace Go.Proofs.Ytlandgoifaleaaa
open Go.RowKit

/-- A row of the call's own that holds the bytes S. -/
structure Own (w0 w : World) (g n c : Nat) (S : List Nat) : Prop where
  own : w.ownsRow w0.heap.size 5 1 (.slice (some ⟨g, 0, none⟩) n c) n (vals S)
  len : n = S.length
  byte : ∀ x ∈ S, x < 256
  base : w0.heap.size ≤ g
  below : Below w0.heap.size w0 w
section
variable {w0 w w' : World} {g n c : Nat} {S : List Nat}
theorem Own.cell (h : Own w0 w g n c S) {j : Nat} (hj : j < n) : w.cell? ⟨g, j, none⟩ = some (.int .u8 ((S.getD j 0 : Nat) : Int)) := by
  rw [h.own.cellAt j (by omega), vals_at (by rw [← h.len]; exact hj)]
theorem Own.frozen (h : Own w0 w g n c S) (j : Nat) : w.frozen? ⟨g, j, none⟩ = false := h.own.frozenAt j
theorem Own.byteAt (h : Own w0 w g n c S) (j : Nat) : S.getD j 0 < 256 := by
  by_cases hj : j < S.length
  · rw [getD_at hj]; exact h.byte _ (List.getElem_mem hj)
  · rw [getD_off (by omega)]; omega
theorem Own.on (h : Own w0 w g n c S) (hb : Below w.heap.size w w') : Own w0 w' g n c S :=
  ⟨own_below h.own hb, h.len, h.byte, h.base, h.below.trans (hb.mono h.below.size)⟩
theorem Own.drew (h : Own w0 w g n c S) : Own w0 w.drew g n c S := ⟨h.own, h.len, h.byte, h.base, h.below.drew⟩
theorem Own.drewN (h : Own w0 w g n c S) (k : Nat) : Own w0 (w.drewN k) g n c S := ⟨h.own, h.len, h.byte, h.base, Below.drewN h.below k⟩
theorem vals_set (S : List Nat) (j y : Nat) : (vals S).set j (.int .u8 ((y : Nat) : Int)) = vals (S.set j y) := by
  unfold vals; rw [List.map_set]
theorem Own.put (h : Own w0 w g n c S) (j y : Nat) (hy : y < 256) : Own w0 (w.setCell ⟨g, j, none⟩ (.int .u8 ((y : Nat) : Int))) g n c (S.set j y) := by
  refine ⟨?_, by rw [List.length_set]; exact h.len, ?_, h.base, h.below.setCell h.base _⟩
  · have := h.own.stored j (.int .u8 ((y : Nat) : Int))
    rw [vals_set] at this
    exact this.1
  · intro x hx
    rcases List.mem_or_eq_of_mem_set hx with hx | rfl
    · exact h.byte x hx
    · exact hy
theorem Own.sl (h : Own w0 w g n c S) (hc : c ≤ maxLen) : Sl w (some ⟨g, 0, none⟩) n c S :=
  ⟨Rd.of_own h.own h.byte, h.len, own_cap h.own, hc, fun e => by cases e⟩
theorem Own.good (h : Own w0 w g n c S) (hl : S.length ≤ 100000) :
    Calls Try.prog 19 #[.slice (some ⟨g, 0, none⟩) n c] w fun e w' => e = .returned (.bool (Go.Proofs.Ytlandgoifaleaaa.good S)) ∧ Own w0 w' g n c S :=
  (good_any n c _ S w (Rd.of_own h.own h.byte) h.len (own_cap h.own) (by omega)).mono fun _ _ ⟨he, h2⟩ => ⟨he, h.on h2⟩
theorem seal_at {A : Option Addr} {m cc : Nat} {L : List Nat} (W : World) (h : Sl w0 A m cc L) (hl : L.length ≤ 100000) (hb : Below w0.heap.size w0 W) :
    Calls Try.prog 21 #[.slice A m cc] W fun e w' => ∃ g c, e = .returned (.slice (some ⟨g, 0, none⟩) (L.length + 4) c) ∧ Own w0 w' g (L.length + 4) c (sealed L) :=
  (seal_any m cc A L W (h.rd.on hb) h.len h.nil (by omega)).mono fun _ _ ⟨g, c, he, h2, h3⟩ => by
    have hg : W.heap.size ≤ g := by
      rcases h2.2 with ⟨h4, _⟩ | ⟨g', cap, cur, hv, hg, _⟩
      · cases h4
      · injection hv with hv; injection hv with hv; injection hv with hv; omega
    refine ⟨g, c, he, ⟨?_, by rw [sealed_length], sealed_byte h.rd.1, Nat.le_trans hb.size hg, hb.trans (h3.mono hb.size)⟩⟩
    have hbs := hb.size
    refine ⟨h2.1, ?_⟩
    rcases h2.2 with h4 | ⟨g', cap, cur, hv, hg', r⟩
    · exact .inl h4
    · exact .inr ⟨g', cap, cur, hv, by omega, r⟩
end
theorem mod_at (at_ : Int) (m : Nat) (hm : m ≤ 100000) (h0 : 0 < m) : ∃ k : Nat, wrap64 ((IntKind.u64.wrap at_).tmod (m : Int)) = (k : Int) ∧ k < m := by
  rw [IntKind.wrap_u64]
  have h0 : 0 ≤ at_ % 18446744073709551616 := Int.emod_nonneg _ (by omega)
  generalize at_ % 18446744073709551616 = x at h0
  rw [Int.tmod_eq_emod_of_nonneg h0]
  have h1 := Int.emod_nonneg x (b := (m : Int)) (by omega)
  have h2 := Int.emod_lt_of_pos x (b := (m : Int)) (by omega)
  generalize x % (m : Int) = y at h1 h2
  refine ⟨y.toNat, ?_, by omega⟩
  unfold wrap64
  omega

set_option maxHeartbeats 1000000 in
theorem swaps_walk (A : Option Addr) (n c : Nat) (l : List Nat) (at_ : Int) (w : World) (h : Sl w A n c l) :
    Calls Try.prog 7 #[.slice A n c, .int .i64 at_] w fun e w' => e = .returned (.bool true) ∧ Below w.heap.size w w' := by
  have hn := h.cap
  have hm := h.max
  have H := Lib.hid h; clear h
  unfold maxLen at hm
  go_enter Try.func7, Try.ntmps7
  go_wp2_with fail
  refine (lives_at _ (Below.refl _ _)).mono ?_
  rintro e w1 ⟨rfl, hb1⟩
  have B1 := Lib.hid hb1; clear hb1
  go_wp2_with fail
  refine (few_any n c A _ (by omega) (by unfold maxLen; omega)).mono ?_
  rintro e w2 ⟨rfl, rfl⟩
  have HF := Lib.hid (H.out.few); clear H
  have hLl : (l.take 300).length ≤ 300 := by rw [List.length_take]; omega
  generalize min n 300 = m at *
  generalize l.take 300 = L at *
  go_wp2_with fail
  refine (seal_at _ HF.out (by omega) B1.out).mono ?_
  rintro e w3 ⟨g, c3, rfl, ho⟩
  have O3 := Lib.hid ho; clear ho
  have HB : Hid (∀ x ∈ L, x < 256) := HF.out.rd.1
  clear B1 HF
  have hN4 : 4 ≤ L.length + 4 := by omega
  have hN : L.length + 4 ≤ 304 := by omega
  have HN := Lib.hid (rfl : L.length + 4 = L.length + 4)
  generalize hNe : L.length + 4 = N at *
  have HNe := Lib.hid hNe
  clear hNe HN hLl
  go_wp2_with fail
  obtain ⟨k, hke, hkm⟩ := mod_at at_ (N - 1) (by omega) (by omega)
  rw [show ((N : Int) - 1) = ((N - 1 : Nat) : Int) from by omega, hke]
  clear hke
  generalize (IntKind.u64.wrap at_).tmod ((N - 1 : Nat) : Int) = q1
  generalize IntKind.u64.wrap at_ = q2
  generalize ((N - 1 : Nat) : Int) = q3
  have hx := O3.out.cell (j := k) (by omega)
  have hy := O3.out.cell (j := k + 1) (by omega)
  have hfx := O3.out.frozen k
  have hfy := O3.out.frozen (k + 1)
  have bx := O3.out.byteAt k
  have by_ := O3.out.byteAt (k + 1)
  have HG := Lib.hid (good_swap (k := k) HB.out (by rw [HNe.out]; omega))
  have hk1 : (k : Int) + 1 < N := by omega
  have hk0 : (k : Int) < N := by omega
  have hk2 : k + 1 < N := by omega
  generalize (sealed L).getD k 0 = x at *
  generalize (sealed L).getD (k + 1) 0 = y at *
  go_quiet (fail)
  go_wp2_with fail
  go_quiet (fail)
  go_wp2_with fail
  refine (Own.good (((O3.out.drewN _).put k y by_).put (k + 1) x bx) (by rw [List.length_set, List.length_set, sealed_length, HNe.out]; omega)).mono ?_
  rintro e w5 ⟨rfl, ho5⟩
  have O5 := Lib.hid ho5; clear ho5
  rw [HG.out]
  have HE : Hid ((decide (x = y) == ((x : Int) == (y : Int))) = true) := by
    show _ = _
    by_cases e : x = y
    · subst e; simp
    · rw [decide_eq_false e, (beq_eq_false_iff_ne.2 (by omega) : ((x : Int) == (y : Int)) = false)]; rfl
  clear O3 HG HB hx hy hfx hfy
  go_wp2_with fail
  go_ret
  exact ⟨congrArg (fun b => Ending.returned (.bool b)) HE.out, O5.out.below⟩

theorem turn_u8 (x i : Nat) (hx : x < 256) (hi : i < 8) : bits .xor .u8 (x : Int) ((2 : Int) ^ i % 256) = ((x ^^^ 2 ^ i : Nat) : Int) := by
  have h : (2 ^ i : Nat) < 256 := (Nat.pow_lt_pow_right (by omega) hi : 2 ^ i < 2 ^ 8)
  have e : ((2 : Int) ^ i % 256) = ((2 ^ i : Nat) : Int) := by
    have e1 : ((2 : Int) ^ i) = ((2 ^ i : Nat) : Int) := by simp
    rw [e1]
    generalize (2 ^ i : Nat) = y at h
    omega
  rw [e, u8_xor_nat _ _ hx h]

set_option maxHeartbeats 1000000 in
theorem turns_walk (A : Option Addr) (n c : Nat) (l : List Nat) (at_ : Int) (w : World) (h : Sl w A n c l) :
    Calls Try.prog 6 #[.slice A n c, .int .i64 at_] w fun e w' => e = .returned (.bool true) ∧ Below w.heap.size w w' := by
  have hn := h.cap
  have hm := h.max
  have H := Lib.hid h; clear h
  unfold maxLen at hm
  go_enter Try.func6, Try.ntmps6
  go_wp2_with fail
  refine (lives_at _ (Below.refl _ _)).mono ?_
  rintro e w1 ⟨rfl, hb1⟩
  have B1 := Lib.hid hb1; clear hb1
  go_wp2_with fail
  refine (few_any n c A _ (by omega) (by unfold maxLen; omega)).mono ?_
  rintro e w2 ⟨rfl, rfl⟩
  have HF := Lib.hid (H.out.few); clear H
  have hLl : (l.take 300).length ≤ 300 := by rw [List.length_take]; omega
  generalize min n 300 = m at *
  generalize l.take 300 = L at *
  go_wp2_with fail
  refine (seal_at _ HF.out (by omega) B1.out).mono ?_
  rintro e w3 ⟨g, c3, rfl, ho⟩
  have O3 := Lib.hid ho; clear ho
  have HB : Hid (∀ x ∈ L, x < 256) := HF.out.rd.1
  clear B1 HF
  have hN4 : 4 ≤ L.length + 4 := by omega
  have hN : L.length + 4 ≤ 304 := by omega
  generalize hNe : L.length + 4 = N at *
  have HNe := Lib.hid hNe
  clear hNe hLl
  go_wp2_with fail
  refine (Own.good O3.out (by rw [sealed_length, HNe.out]; omega)).mono ?_
  rintro e w4 ⟨rfl, ho4⟩
  have O4 := Lib.hid ho4; clear ho4 O3
  rw [good_sealed]
  go_wp2_with fail
  obtain ⟨k, hke, hkm⟩ := mod_at at_ (8 * N) (by omega) (by omega)
  rw [show (8 * (N : Int)) = ((8 * N : Nat) : Int) from by omega, hke]
  clear hke
  generalize (IntKind.u64.wrap at_).tmod ((8 * N : Nat) : Int) = q1
  generalize IntKind.u64.wrap at_ = q2
  generalize ((8 * N : Nat) : Int) = q3
  have hj : k / 8 < N := by omega
  have hi : k % 8 < 8 := by omega
  have hx := O4.out.cell hj
  have hfx := O4.out.frozen (k / 8)
  have bx := O4.out.byteAt (k / 8)
  have hj1 : (k : Int) / 8 < N := by omega
  have hj0 : 0 ≤ (k : Int) / 8 := by omega
  have hi0 : 0 ≤ (k : Int) % 8 := by omega
  have HX : Hid ((sealed L).getD (k / 8) 0 = (sealed L).getD (k / 8) 0) := rfl
  generalize hxe : (sealed L).getD (k / 8) 0 = x at hx bx
  have HXe := Lib.hid hxe; clear hxe HX
  have ht := turn_u8 x (k % 8) bx hi
  have ht2 := turn_u8 (x ^^^ 2 ^ (k % 8)) (k % 8) (turn_lt bx hi) hi
  rw [turn_back] at ht2
  have bt : x ^^^ 2 ^ (k % 8) < 256 := turn_lt bx hi
  have HT : Hid (x ^^^ 2 ^ (k % 8) ≠ x) := turn_ne x _
  generalize x ^^^ 2 ^ (k % 8) = t at ht ht2 bt HT
  go_region
  go_wp2_with fail
  refine (Own.good ((O4.out.put (k / 8) t bt).drew) (by rw [List.length_set, sealed_length, HNe.out]; omega)).mono ?_
  rintro e w5 ⟨rfl, ho5⟩
  have O5 := Lib.hid ho5; clear ho5 O4
  rw [good_one HB.out (by rw [HNe.out]; exact hj) bt (by rw [HXe.out]; exact HT.out)]
  clear hx hfx
  have hx := O5.out.cell hj
  rw [getD_set_self _ _ _ (by rw [sealed_length, HNe.out]; exact hj)] at hx
  have hfx := O5.out.frozen (k / 8)
  go_wp2_with fail
  go_region
  go_wp2_with fail
  refine (Own.good ((O5.out.put (k / 8) x bx).drew) (by rw [List.length_set, List.length_set, sealed_length, HNe.out]; omega)).mono ?_
  rintro e w6 ⟨rfl, ho6⟩
  have O6 := Lib.hid ho6; clear ho6
  rw [set_back _ _ _ _ (by rw [sealed_length, HNe.out]; exact hj) HXe.out.symm, good_sealed]
  go_wp2_with fail
  go_ret
  exact ⟨rfl, O6.out.below⟩
end Go.Proofs.Ytlandgoifaleaaa
