/-
  The walk of the statement DiskKeeps.
-/
import Derived.Test.YtoapdkncddhgiaaDskTwo
import Derived.Test.YtoapdkncddhgiaaTxt
import Derived.Deep.Cut
namespace Go.Proofs.Ytoapdkncddhgiaa
open Go.RowKit

/-- What the array of texts holds behind j rounds. -/
def leftAt (x y : ByteArray) : Nat → Array Value
  | 0 => #[.string ⟨#[]⟩, .string ⟨#[]⟩]
  | 1 => #[.string x, .string ⟨#[]⟩]
  | _ => #[.string x, .string y]
theorem keeps_take (a b : List Nat) (p q : Nat) (h : p ≤ q) : (a ++ b.take q).take (a.length + p) = a ++ b.take p := by
  rw [List.take_append, List.take_of_length_le (by omega), Nat.add_sub_cancel_left, List.take_take, Nat.min_eq_left h]

/-- What a round finds. -/
structure KRel (w : World) (g : Nat) (k0 k1 : Int) (x y : ByteArray) (j : Nat) (wr : World) : Prop where
  below : Below w.heap.size w wr
  keep : wr.heap[w.heap.size]? = some (.cells #[.int .i64 k0, .int .i64 k1] 50 (0, 0))
  left : wr.heap[g]? = some (.cells (leftAt x y j) 51 (0, 0))
theorem KRel.lt {w : World} {g : Nat} {k0 k1 : Int} {x y : ByteArray} {j : Nat} {wr : World} (h : KRel w g k0 k1 x y j wr) : w.heap.size < wr.heap.size ∧ g < wr.heap.size :=
  ⟨(Array.getElem?_eq_some_iff.1 h.keep).1, (Array.getElem?_eq_some_iff.1 h.left).1⟩
theorem KRel.on {w : World} {g : Nat} {k0 k1 : Int} {x y : ByteArray} {j : Nat} {wr wr' : World} (h : KRel w g k0 k1 x y j wr) (hb : Below wr.heap.size wr wr') : KRel w g k0 k1 x y j wr' :=
  ⟨h.below.trans (hb.mono h.below.size), (hb.block _ h.lt.1).trans h.keep, (hb.block _ h.lt.2).trans h.left⟩
theorem KRel.put {w : World} {g : Nat} {k0 k1 : Int} {x y : ByteArray} {j : Nat} {wr : World} (h : KRel w g k0 k1 x y j wr) (hg : w.heap.size < g) (o : Nat) (u : ByteArray) (j' : Nat) (e : (leftAt x y j).setIfInBounds o (.string u) = leftAt x y j') : KRel w g k0 k1 x y j' (wr.setCell ⟨g, o, none⟩ (.string u)) := by
  refine ⟨h.below.setCell (Nat.le_of_lt hg) _, (heap_set_other _ _ _ _ _ (by omega)).trans h.keep, ?_⟩
  rw [heap_setCell_same wr g o _ _ _ h.left, e]

set_option maxRecDepth 100000 in
set_option maxHeartbeats 3200000 in
theorem dkeeps_walk (n c m d : Nat) (A D : Option Addr) (a b : List Nat) (k0 k1 : Int) (w : World) (ha : Sl w A n c a) (hb : Sl w D m d b)
    (h0 : -9223372036854775808 ≤ k0 ∧ k0 ≤ 9223372036854775807) (h1 : -9223372036854775808 ≤ k1 ∧ k1 ≤ 9223372036854775807) :
    Calls Try.prog 8 #[.slice A n c, .slice D m d, .agg #[.int .i64 k0, .int .i64 k1]] w fun e w' => e = .returned (.bool true) ∧ Below w.heap.size w w' := by
  obtain ⟨n2, hn2⟩ : ∃ x : Nat, x = min n 100 := ⟨_, rfl⟩
  obtain ⟨m2, hm2⟩ : ∃ x : Nat, x = min m 100 := ⟨_, rfl⟩
  have hni : min (n : Int) 100 = (n2 : Int) := by omega
  have hmi : min (m : Int) 100 = (m2 : Int) := by omega
  have hnc : n2 ≤ c := by have := ha.cap; omega
  have hmc : m2 ≤ d := by have := hb.cap; omega
  have hnl : n2 ≤ 200 := by omega
  have hml : m2 ≤ 200 := by omega
  have HA0 := ha.take (k := n2) (by omega)
  have HB0 := hb.take (k := m2) (by omega)
  generalize a.take n2 = la at HA0
  generalize b.take m2 = lb at HB0
  have HA := Lib.hid HA0
  have HB := Lib.hid HB0
  have hla : n2 = la.length := HA0.len
  have hlb : m2 = lb.length := HB0.len
  obtain ⟨i0, hi0⟩ : ∃ k : Nat, (k : Int) = min (max k0 0) (lb.length : Nat) := ⟨(min (max k0 0) (lb.length : Nat)).toNat, by omega⟩
  obtain ⟨i1, hi1⟩ : ∃ k : Nat, (k : Int) = min (max k1 0) (lb.length : Nat) := ⟨(min (max k1 0) (lb.length : Nat)).toNat, by omega⟩
  have F0 := Lib.hid (two_facts la lb k0 i0 hi0 (by omega) (by omega))
  have F1 := Lib.hid (two_facts la lb k1 i1 hi1 (by omega) (by omega))
  have IL0 : Hid (i0 ≤ lb.length) := by show _ ≤ _; omega
  have IL1 : Hid (i1 ≤ lb.length) := by show _ ≤ _; omega
  have IC : Hid ((k1 < k0 → i1 ≤ i0) ∧ (¬ k1 < k0 → i0 ≤ i1)) := by show _ ∧ _; omega
  have LA := Lib.hid hla
  have LB := Lib.hid hlb
  have LL : Hid (n2 ≤ 200 ∧ m2 ≤ 200) := ⟨hnl, hml⟩
  have K0 := Lib.hid h0
  have K1 := Lib.hid h1
  obtain ⟨z0, hz0⟩ : ∃ z, z = la ++ lb.take i0 := ⟨_, rfl⟩
  obtain ⟨z1, hz1⟩ : ∃ z, z = la ++ lb.take i1 := ⟨_, rfl⟩
  have Z0 := Lib.hid hz0
  have Z1 := Lib.hid hz1
  rw [← hz0] at F0
  rw [← hz1] at F1
  clear ha hb HA0 HB0 h0 h1 hz0 hz1 hla hlb hn2 hm2 hi0 hi1 hnl hml
  go_enter Try.func8, Try.ntmps8
  go_wp2_with fail
  have BK := Lib.hid ((Below.refl w.heap.size w).alloc (Nat.le_refl _) (.cells #[.int .i64 k0, .int .i64 k1] 50))
  have HK : Hid ((w.alloc (.cells #[.int .i64 k0, .int .i64 k1] 50)).heap[w.heap.size]? = some (.cells #[.int .i64 k0, .int .i64 k1] 50 (0, 0))) := heap_alloc_new w _
  (with_reducible refine (dlives_any _).mono ?_)
  rintro e w1 ⟨rfl, hb1⟩
  have B1 := Lib.hid (BK.out.trans (hb1.mono BK.out.size))
  have HK1 := Lib.hid ((hb1.block w.heap.size (by simp)).trans HK.out)
  clear hb1 HK BK
  go_wp2_with fail
  go_quiet (fail)
  go_wp2_with fail
  obtain ⟨g, hg⟩ : ∃ g, g = w1.heap.size := ⟨_, rfl⟩
  have GG : Hid (w.heap.size < g) := by show _ < _; rw [hg]; exact (Array.getElem?_eq_some_iff.1 HK1.out).1
  have R0 : Hid (∀ q, KRel w g k0 k1 (txt z0) (txt z1) 0 ((w1.drewN q).alloc (.cells #[.string ⟨#[]⟩, .string ⟨#[]⟩] 51))) := by
    intro q
    have hb : Below w1.heap.size w1 ((w1.drewN q).alloc (.cells #[.string ⟨#[]⟩, .string ⟨#[]⟩] 51)) := (Below.drewN (Below.refl _ _) q).alloc (Nat.le_refl _) _
    refine ⟨B1.out.trans (hb.mono B1.out.size), (hb.block _ (by have := GG.out; omega)).trans HK1.out, ?_⟩
    rw [hg]
    exact heap_alloc_new (w1.drewN q) _
  rw [← hg]
  clear hg
  go_loopw [8, 9] (fun i _ wr => ∃ j : Nat, j ≤ 2 ∧ i = .int .i64 j ∧ KRel w g k0 k1 (txt z0) (txt z1) j wr) (fun i _ _ => 2 - (intOf i).toNat)
  case atStart => exact ⟨0, by omega, rfl, R0.out _⟩
  case round =>
    obtain ⟨j, hj, rfl, hr⟩ := hrel
    have KR := Lib.hid hr
    clear hr R0
    by_cases hlt : j < 2
    · obtain ⟨kj, ij, zj, hkj, hzj, hlj⟩ : ∃ (kj : Int) (ij : Nat) (zj : List Nat), Hid (wr.cell? ⟨w.heap.size, j, none⟩ = some (.int .i64 kj) ∧ (-9223372036854775808 ≤ kj ∧ kj ≤ 9223372036854775807)) ∧
          Hid (Dk.write ⟨1000, 0, []⟩ la = ⟨1000, 0, la⟩ ∧ Dk.writeE ⟨1000, 0, []⟩ la = 0 ∧ Dk.sync ⟨1000, 0, la⟩ = ⟨1000, la.length, la⟩ ∧
            Dk.write ⟨1000, la.length, la⟩ lb = ⟨1000, la.length, la ++ lb⟩ ∧ Dk.writeE ⟨1000, la.length, la⟩ lb = 0 ∧ Dk.crash ⟨1000, la.length, la ++ lb⟩ kj = ⟨1000, la.length + ij, zj⟩) ∧
          Hid ((leftAt (txt z0) (txt z1) j).setIfInBounds j (.string (txt zj)) = leftAt (txt z0) (txt z1) (j + 1)) := by
        have hj2 : j = 0 ∨ j = 1 := by omega
        rcases hj2 with rfl | rfl
        · exact ⟨k0, i0, z0, ⟨by rw [cell_of_row wr _ 0 _ _ _ KR.out.keep]; rfl, K0.out⟩, F0, rfl⟩
        · exact ⟨k1, i1, z1, ⟨by rw [cell_of_row wr _ 1 _ _ _ KR.out.keep]; rfl, K1.out⟩, F1, rfl⟩
      go_wp2_with fail
      (with_reducible refine (dNew_at wr 1000 (Below.refl _ _)).mono ?_)
      rw [safe_one]
      rintro e w2 ⟨r, rfl, hr, hd2, hb2, _⟩
      have D2 := Lib.hid hd2
      have B2 := Lib.hid hb2
      clear hd2 hb2
      have HA2 := Lib.hid (HA.out.on KR.out.below)
      have HB2 := Lib.hid (HB.out.on KR.out.below)
      go_wp2_with fail
      (with_reducible refine (dWrite_at _ B2.out D2.out (HA2.out.on B2.out)).mono ?_)
      rw [hzj.out.1]
      rintro e w3 ⟨rfl, hd3, hb3⟩
      have D3 := Lib.hid hd3
      have B3 := Lib.hid hb3
      clear hd3 hb3
      go_wp2_with fail
      (with_reducible refine (dSync_at _ B3.out D3.out).mono ?_)
      rw [hzj.out.2.2.1]
      rintro e w4 ⟨rfl, hd4, hb4⟩
      have D4 := Lib.hid hd4
      have B4 := Lib.hid hb4
      clear hd4 hb4
      go_wp2_with fail
      (with_reducible refine (dWrite_at _ B4.out D4.out (HB2.out.on B4.out)).mono ?_)
      rw [hzj.out.2.2.2.1]
      rintro e w5 ⟨rfl, hd5, hb5⟩
      have D5 := Lib.hid hd5
      have B5 := Lib.hid hb5
      have hc5 : w5.cell? ⟨w.heap.size, j, none⟩ = some (.int .i64 kj) := (hb5.cell (p := ⟨w.heap.size, j, none⟩) KR.out.lt.1).trans hkj.out.1
      clear hd5 hb5
      go_wp2_with fail
      clear hc5
      (with_reducible refine (dCrash_at _ B5.out D5.out hkj.out.2).mono ?_)
      rw [hzj.out.2.2.2.2.2]
      rintro e w6 ⟨rfl, hd6, hb6⟩
      have D6 := Lib.hid hd6
      have B6 := Lib.hid hb6
      clear hd6 hb6
      go_wp2_with fail
      (with_reducible refine (dAll_at _ D6.out).mono ?_)
      rintro e w7 ⟨A7, c7, rfl, ho7, hb7⟩
      have hcv := conv_rd (c := c7) ho7.sls.rd rfl
      have B7 := B6.out.trans (hb7.mono B6.out.size)
      have KR7 := Lib.hid (KR.out.on B7)
      clear ho7 hb7 B7
      obtain ⟨v7, hc7⟩ : ∃ v7, w7.cell? ⟨g, j, none⟩ = some v7 := by
        rw [cell_of_row w7 g j _ _ _ KR7.out.left]
        have hj2 : j = 0 ∨ j = 1 := by omega
        rcases hj2 with rfl | rfl <;> exact ⟨_, rfl⟩
      have hf7 : w7.frozen? ⟨g, j, none⟩ = false := frozen_of_row w7 g j _ _ KR7.out.left
      go_wp2_with fail
      exact ⟨⟨j + 1, by omega, by go_num, KR7.out.put GG.out _ _ _ hlj.out⟩, by simp [intOf]; omega⟩
    · obtain rfl : j = 2 := by omega
      have c0 : wr.cell? ⟨g, 0, none⟩ = some (.string (txt z0)) := by rw [cell_of_row wr g 0 _ _ _ KR.out.left]; rfl
      have c1 : wr.cell? ⟨g, 1, none⟩ = some (.string (txt z1)) := by rw [cell_of_row wr g 1 _ _ _ KR.out.left]; rfl
      have e0 : wr.cell? ⟨w.heap.size, 0, none⟩ = some (.int .i64 k0) := by rw [cell_of_row wr _ 0 _ _ _ KR.out.keep]; rfl
      have e1 : wr.cell? ⟨w.heap.size, 1, none⟩ = some (.int .i64 k1) := by rw [cell_of_row wr _ 1 _ _ _ KR.out.keep]; rfl
      have s0 : (txt z0).size = n2 + i0 := by rw [txt_size, Z0.out, List.length_append, List.length_take, LA.out]; have := IL0.out; omega
      have s1 : (txt z1).size = n2 + i1 := by rw [txt_size, Z1.out, List.length_append, List.length_take, LA.out]; have := IL1.out; omega
      by_cases hk : k1 < k0
      · have hi : i1 ≤ i0 := IC.out.1 hk
        have ht : (txt z0).extract 0 (n2 + i1) = txt z1 := by rw [txt_cut, Z0.out, LA.out, keeps_take la lb i1 i0 hi, Z1.out]
        go_wp2_with fail
        go_quiet (fail)
        go_wp2_with fail
        go_ret
        exact ⟨ret_bool (decide_eq_true (by omega)), Below.drewN KR.out.below _⟩
      · have hi : i0 ≤ i1 := IC.out.2 (by omega)
        have ht : (txt z1).extract 0 (n2 + i0) = txt z0 := by rw [txt_cut, Z1.out, LA.out, keeps_take la lb i0 i1 hi, Z0.out]
        go_wp2_with fail
        go_quiet (fail)
        go_wp2_with fail
        go_ret
        exact ⟨ret_bool (decide_eq_true (by omega)), Below.drewN KR.out.below _⟩
end Go.Proofs.Ytoapdkncddhgiaa
