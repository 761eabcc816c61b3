/-
  The walk of the statement DiskSafe.
-/
import Derived.Test.YtoapdkncddhgiaaDskLives
import Derived.Test.YtoapdkncddhgiaaTxt
import Derived.Test.YtoapdkncddhgiaaRegion
import Derived.Deep.Cut
namespace Go.Proofs.Ytoapdkncddhgiaa
open Go.RowKit
set_option linter.unusedSimpArgs false

theorem safe_one : Dk.new 1000 = ⟨1000, 0, []⟩ := rfl
theorem safe_crash (a b : List Nat) (keep : Int) (k : Nat) (hk : (k : Int) = min (max keep 0) (b.length : Nat)) (R : Nat) :
    Dk.crash ⟨R, a.length, a ++ b⟩ keep = ⟨R, a.length + k, a ++ b.take k⟩ ∧ Dk.lost ⟨R, a.length, a ++ b⟩ keep = b.length - k := by
  have h1 : Dk.opens ⟨R, a.length, a ++ b⟩ = b.length := by simp [Dk.opens]
  have h2 : Dk.kept ⟨R, a.length, a ++ b⟩ keep = k := by unfold Dk.kept; rw [h1]; omega
  refine ⟨?_, ?_⟩
  · unfold Dk.crash
    rw [h2]
    simp only [Dk.leave, List.take_append, Nat.add_sub_cancel_left]
    rw [List.take_of_length_le (by omega)]
  · unfold Dk.lost
    rw [h1, h2]
theorem safe_again (R n : Nat) (l : List Nat) (hn : n = l.length) (keep : Int) : Dk.crash ⟨R, n, l⟩ keep = ⟨R, n, l⟩ ∧ Dk.lost ⟨R, n, l⟩ keep = 0 := by
  subst hn
  have h1 : Dk.opens ⟨R, l.length, l⟩ = 0 := by simp [Dk.opens]
  have h2 : Dk.kept ⟨R, l.length, l⟩ keep = 0 := by unfold Dk.kept; rw [h1]; omega
  refine ⟨?_, ?_⟩
  · unfold Dk.crash
    rw [h2]
    simp [Dk.leave]
  · unfold Dk.lost
    rw [h1, h2]

set_option maxRecDepth 100000 in
set_option maxHeartbeats 3200000 in
theorem dsafe_walk (n c m d : Nat) (A D : Option Addr) (a b : List Nat) (keep : Int) (w : World) (ha : Sl w A n c a) (hb : Sl w D m d b) (hk : -9223372036854775808 ≤ keep ∧ keep ≤ 9223372036854775807) :
    Calls Try.prog 4 #[.slice A n c, .slice D m d, .int .i64 keep] w fun e w' => e = .returned (.bool true) ∧ Below w.heap.size w w' := by
  obtain ⟨n2, hn2⟩ : ∃ x : Nat, x = min n 200 := ⟨_, rfl⟩
  obtain ⟨m2, hm2⟩ : ∃ x : Nat, x = min m 200 := ⟨_, rfl⟩
  have hni : min (n : Int) 200 = (n2 : Int) := by omega
  have hmi : min (m : Int) 200 = (m2 : Int) := by omega
  have hnc : n2 ≤ c := by have := ha.cap; omega
  have hmc : m2 ≤ d := by have := hb.cap; omega
  have hnl : n2 ≤ 200 := by omega
  have hml : m2 ≤ 200 := by omega
  have HA0 := ha.take (k := n2) (by omega)
  have HB0 := hb.take (k := m2) (by omega)
  generalize a.take n2 = la at HA0
  generalize b.take m2 = lb at HB0
  have HA := Lib.hid HA0
  have HB := Lib.hid HB0
  obtain ⟨k, hkk⟩ : ∃ k : Nat, (k : Int) = min (max keep 0) (m2 : Nat) := ⟨(min (max keep 0) (m2 : Nat)).toNat, by omega⟩
  have hki : min (max keep 0) (m2 : Int) = (k : Int) := hkk.symm
  have hkm : k ≤ m2 := by omega
  have hkd : k ≤ d := by omega
  have hov : ¬ 9223372036854775807 < n2 + k := by omega
  have HK := Lib.hid hk
  have hla : n2 = la.length := HA0.len
  have hlb : m2 = lb.length := HB0.len
  have HBk := Lib.hid (HB0.take hkm)
  have S1 : Hid (Dk.write ⟨1000, 0, []⟩ la = ⟨1000, 0, la⟩ ∧ Dk.writeE ⟨1000, 0, []⟩ la = 0) := by
    have g : Dk.goes ⟨1000, 0, []⟩ la := by simp [Dk.goes]; omega
    refine ⟨?_, ?_⟩
    · unfold Dk.write; rw [if_pos g]; simp
    · unfold Dk.writeE; rw [if_pos g]
  have S2 : Hid (Dk.sync ⟨1000, 0, la⟩ = ⟨1000, n2, la⟩ ∧ Dk.opens ⟨1000, 0, la⟩ = n2) := by
    refine ⟨?_, ?_⟩
    · unfold Dk.sync; rw [hla]
    · simp [Dk.opens, hla]
  have S3 : Hid (Dk.write ⟨1000, n2, la⟩ lb = ⟨1000, n2, la ++ lb⟩ ∧ Dk.writeE ⟨1000, n2, la⟩ lb = 0) := by
    have g : Dk.goes ⟨1000, n2, la⟩ lb := by simp [Dk.goes]; omega
    refine ⟨?_, ?_⟩
    · unfold Dk.write; rw [if_pos g]
    · unfold Dk.writeE; rw [if_pos g]
  have C1 : Hid (Dk.crash ⟨1000, n2, la ++ lb⟩ keep = ⟨1000, (la ++ lb.take k).length, la ++ lb.take k⟩ ∧ Dk.lost ⟨1000, n2, la ++ lb⟩ keep = m2 - k) := by
    have := safe_crash la lb keep k (by rw [hkk, hlb]) 1000
    rw [show (la ++ lb.take k).length = la.length + k from by rw [List.length_append, List.length_take]; omega]
    rw [← hla, ← hlb] at this
    rw [← hla]
    exact this
  obtain ⟨x, hx⟩ : ∃ x, x = m2 - k := ⟨_, rfl⟩
  rw [← hx] at C1
  have hxi : (m2 : Int) - (x : Int) = (k : Int) := by omega
  have hx0 : (0 : Int) ≤ (x : Int) := by omega
  have hk0 : (0 : Int) ≤ (k : Int) := by omega
  clear hx
  obtain ⟨z, hz⟩ : ∃ z, z = la ++ lb.take k := ⟨_, rfl⟩
  rw [← hz] at C1
  have C2 := Lib.hid (safe_again 1000 z.length z rfl keep)
  have C3 : Hid (Dk.sync ⟨1000, z.length, z⟩ = ⟨1000, z.length, z⟩ ∧ Dk.opens ⟨1000, z.length, z⟩ = 0) := ⟨rfl, by simp [Dk.opens]⟩
  have hzt : txt la ++ txt (lb.take k) = txt z := by rw [txt_append, hz]
  have hs1 : (txt la).size = n2 := by rw [txt_size, hla]
  have hs2 : (txt (lb.take k)).size = k := by rw [txt_size, List.length_take]; omega
  clear ha hb HA0 HB0 hk hz hla hlb hn2 hm2 hkk
  go_enter Try.func4, Try.ntmps4
  go_wp2_with fail
  (with_reducible refine (dlives_at _ (Below.refl _ _)).mono ?_)
  rintro e w1 ⟨rfl, hb1⟩
  have B1 := Lib.hid hb1; clear hb1
  go_wp2_with fail
  go_quiet (fail)
  go_wp2_with fail
  (with_reducible refine (dNew_at _ 1000 (Below.drewN B1.out _)).mono ?_)
  rw [safe_one]
  rintro e w2 ⟨r, rfl, hr, hd2, hb2, _⟩
  have D2 := Lib.hid (hd2.lower B1.out.size)
  have B2 := Lib.hid hb2
  clear hd2 hb2
  go_wp2_with fail
  (with_reducible refine (dWrite_at _ B2.out D2.out (HA.out.on B2.out)).mono ?_)
  rw [S1.out.1, S1.out.2]
  rintro e w3 ⟨rfl, hd3, hb3⟩
  have D3 := Lib.hid hd3
  have B3 := Lib.hid hb3
  clear hd3 hb3
  go_wp2_with fail
  (with_reducible refine (dSync_at _ B3.out D3.out).mono ?_)
  rw [S2.out.1, S2.out.2]
  rintro e w4 ⟨rfl, hd4, hb4⟩
  have D4 := Lib.hid hd4
  have B4 := Lib.hid hb4
  clear hd4 hb4
  go_wp2_with fail
  (with_reducible refine (dWrite_at _ B4.out D4.out (HB.out.on B4.out)).mono ?_)
  rw [S3.out.1, S3.out.2]
  rintro e w5 ⟨rfl, hd5, hb5⟩
  have D5a := Lib.hid hd5
  have B5 := Lib.hid hb5
  clear hd5 hb5
  go_wp2_with fail
  (with_reducible refine (dSafe_at _ D5a.out).mono ?_)
  rintro e w5b ⟨rfl, hb5⟩
  have D5b := Lib.hid (D5a.out.below hb5)
  have B5b := Lib.hid (B5.out.trans (hb5.mono B5.out.size))
  clear hb5
  go_wp2_with fail
  (with_reducible refine (dCrash_at _ B5b.out D5b.out HK.out).mono ?_)
  rw [C1.out.1, C1.out.2]
  rintro e w6 ⟨rfl, hd6, hb6⟩
  have D5 := Lib.hid hd6
  have B6 := Lib.hid hb6
  clear hd6 hb6
  go_wp2_with fail
  refine wp_region_held_drew (S := fun W => Below w.heap.size w W) (by kernel_rfl) B6.out.drew (fun hS => ?_)
  have D6 := Lib.hid (D5.out.below ((Below.refl _ _).drew))
  refine tkYes 0 (v := ?_) rfl (by kernel_rfl) (fun _ _ _ h => h) rfl ?_ hS ?_
  rotate_left
  · intro W hW; go_simp; (try with_reducible rfl)
  simp only [Act.put, List.setIfInBounds_toArray, List.set_cons_zero, List.set_cons_succ]
  refine tkYes 1 (v := ?_) rfl (by kernel_rfl) (fun _ _ _ h => h) rfl ?_ hS ?_
  rotate_left
  · intro W hW; go_simp; (try with_reducible rfl)
  simp only [Act.put, List.setIfInBounds_toArray, List.set_cons_zero, List.set_cons_succ]
  refine tkYes 2 (v := ?_) rfl (by kernel_rfl) (fun _ _ _ h => h) rfl ?_ hS ?_
  rotate_left
  · intro W hW; go_simp; (try with_reducible rfl)
  simp only [Act.put, List.setIfInBounds_toArray, List.set_cons_zero, List.set_cons_succ]
  refine tkYes 3 (v := ?_) rfl (by kernel_rfl) (fun _ _ _ h => h) rfl ?_ hS ?_
  rotate_left
  · intro W hW; go_simp; (try with_reducible rfl)
  simp only [Act.put, List.setIfInBounds_toArray, List.set_cons_zero, List.set_cons_succ]
  refine tkYes 4 (v := ?_) rfl (by kernel_rfl) (fun _ _ _ h => h) rfl ?_ hS ?_
  rotate_left
  · intro W hW; go_simp; (try with_reducible rfl)
  simp only [Act.put, List.setIfInBounds_toArray, List.set_cons_zero, List.set_cons_succ]
  refine tkYes 5 (v := ?_) rfl (by kernel_rfl) (fun _ _ _ h => h) rfl ?_ hS ?_
  rotate_left
  · intro W hW; go_simp; (try with_reducible rfl)
  simp only [Act.put, List.setIfInBounds_toArray, List.set_cons_zero, List.set_cons_succ]
  refine tkYes 6 (v := ?_) rfl (by kernel_rfl) (fun _ _ _ h => h) rfl ?_ hS ?_
  rotate_left
  · intro W hW; go_simp; (try with_reducible rfl)
  simp only [Act.put, List.setIfInBounds_toArray, List.set_cons_zero, List.set_cons_succ]
  refine tkYes 7 (v := ?_) rfl (by kernel_rfl) (fun _ _ _ h => h) rfl ?_ hS ?_
  rotate_left
  · intro W hW; go_simp; (try with_reducible rfl)
  simp only [Act.put, List.setIfInBounds_toArray, List.set_cons_zero, List.set_cons_succ]
  refine tkYes 8 (v := ?_) rfl (by kernel_rfl) (fun _ _ _ h => h) rfl ?_ hS ?_
  rotate_left
  · intro W hW; go_simp; (try with_reducible rfl)
  simp only [Act.put, List.setIfInBounds_toArray, List.set_cons_zero, List.set_cons_succ]
  refine tkYes 9 (v := ?_) rfl (by kernel_rfl) (fun _ _ _ h => h) rfl ?_ hS ?_
  rotate_left
  · intro W hW; go_simp; (try with_reducible rfl)
  simp only [Act.put, List.setIfInBounds_toArray, List.set_cons_zero, List.set_cons_succ]
  refine tkYes 10 (v := ?_) rfl (by kernel_rfl) (fun _ _ _ h => h) rfl ?_ hS ?_
  rotate_left
  · intro W hW; go_simp; (try with_reducible rfl)
  simp only [Act.put, List.setIfInBounds_toArray, List.set_cons_zero, List.set_cons_succ]
  refine tkYes 11 (v := ?_) rfl (by kernel_rfl) (fun _ _ _ h => h) rfl ?_ hS ?_
  rotate_left
  · intro W hW; go_simp; (try with_reducible rfl)
  simp only [Act.put, List.setIfInBounds_toArray, List.set_cons_zero, List.set_cons_succ]
  refine tkYes 12 (v := ?_) rfl (by kernel_rfl) (fun _ _ _ h => h) rfl ?_ hS ?_
  rotate_left
  · intro W hW; go_simp; (try with_reducible rfl)
  simp only [Act.put, List.setIfInBounds_toArray, List.set_cons_zero, List.set_cons_succ]
  refine tkYes 13 (v := ?_) rfl (by kernel_rfl) (fun _ _ _ h => h) rfl ?_ hS ?_
  rotate_left
  · intro W hW; go_simp; (try with_reducible rfl)
  simp only [Act.put, List.setIfInBounds_toArray, List.set_cons_zero, List.set_cons_succ]
  refine tkYes 14 (v := ?_) rfl (by kernel_rfl) (fun _ _ _ h => h) rfl ?_ hS ?_
  rotate_left
  · intro W hW; go_simp; (try with_reducible rfl)
  simp only [Act.put, List.setIfInBounds_toArray, List.set_cons_zero, List.set_cons_succ]
  refine tkYes 15 (v := ?_) rfl (by kernel_rfl) (fun _ _ _ h => h) rfl ?_ hS ?_
  rotate_left
  · intro W hW; go_simp; (try with_reducible rfl)
  simp only [Act.put, List.setIfInBounds_toArray, List.set_cons_zero, List.set_cons_succ]
  refine tkYes 16 (v := ?_) rfl (by kernel_rfl) (fun _ _ _ h => h) rfl ?_ hS ?_
  rotate_left
  · intro W hW; go_simp; (try with_reducible rfl)
  simp only [Act.put, List.setIfInBounds_toArray, List.set_cons_zero, List.set_cons_succ]
  refine tkYes 19 (v := ?_) rfl (by kernel_rfl) (fun _ _ _ h => h) rfl ?_ hS ?_
  rotate_left
  · intro W hW; go_simp; (try with_reducible rfl)
  simp only [Act.put, List.setIfInBounds_toArray, List.set_cons_zero, List.set_cons_succ]
  refine tkYes 20 (v := ?_) rfl (by kernel_rfl) (fun _ _ _ h => h) rfl ?_ hS ?_
  rotate_left
  · intro W hW; have hW1 : Below w.heap.size w W := hW; have hcv1 := conv_rd (c := c) (HA.out.on hW1).rd HA.out.len; go_simp; (try with_reducible rfl)
  simp only [Act.put, List.setIfInBounds_toArray, List.set_cons_zero, List.set_cons_succ]
  refine tkYes 21 (v := ?_) rfl (by kernel_rfl) (fun _ _ _ h => h) rfl ?_ hS ?_
  rotate_left
  · intro W hW; go_simp; (try with_reducible rfl)
  simp only [Act.put, List.setIfInBounds_toArray, List.set_cons_zero, List.set_cons_succ]
  refine tkYes 22 (v := ?_) rfl (by kernel_rfl) (fun _ _ _ h => h) rfl ?_ hS ?_
  rotate_left
  · intro W hW; go_simp; (try with_reducible rfl)
  simp only [Act.put, List.setIfInBounds_toArray, List.set_cons_zero, List.set_cons_succ]
  refine tkYes 23 (v := ?_) rfl (by kernel_rfl) (fun _ _ _ h => h) rfl ?_ hS ?_
  rotate_left
  · intro W hW; go_simp; (try with_reducible rfl)
  simp only [Act.put, List.setIfInBounds_toArray, List.set_cons_zero, List.set_cons_succ]
  refine tkYes 24 (v := ?_) rfl (by kernel_rfl) (fun _ _ _ h => h) rfl ?_ hS ?_
  rotate_left
  · intro W hW; have hW1 : Below w.heap.size w W := hW; have hcv2 := conv_rd (c := d) (HBk.out.on hW1).rd HBk.out.len; go_simp; (try with_reducible rfl)
  simp only [Act.put, List.setIfInBounds_toArray, List.set_cons_zero, List.set_cons_succ]
  refine tkYes 25 (v := ?_) rfl (by kernel_rfl) (fun _ _ _ h => h) rfl ?_ hS ?_
  rotate_left
  · intro W hW; go_simp; (try with_reducible rfl)
  simp only [Act.put, List.setIfInBounds_toArray, List.set_cons_zero, List.set_cons_succ]
  refine rnOne 17 rfl (by kernel_rfl) rfl (fun K hK => ?_)
  go_simp
  (with_reducible refine (dAll_at _ D6.out).mono ?_)
  rintro e w7 ⟨A7, c7, rfl, ho7, hb7⟩
  have hcvA := conv_rd (c := c7) ho7.sls.rd rfl
  have D7 := Lib.hid (D6.out.below hb7)
  have hS2 := hS.trans (hb7.mono hS.size)
  clear ho7 hb7 hS
  have hS := hS2
  clear hS2
  refine hK.out _ _ hS (fun _ => ?_)
  clear hK K
  try simp only [Act.put, List.setIfInBounds_toArray, List.set_cons_zero, List.set_cons_succ]
  refine rnOne 18 rfl (by kernel_rfl) rfl (fun K hK => ?_)
  go_simp
  refine hK.out _ _ hS (fun _ => ?_)
  clear hK K
  refine tkYes 26 (v := ?_) rfl (by kernel_rfl) (fun _ _ _ h => h) rfl ?_ hS ?_
  rotate_left
  · intro W hW; go_simp; (try with_reducible rfl)
  simp only [Act.put, List.setIfInBounds_toArray, List.set_cons_zero, List.set_cons_succ]
  refine tkYes 27 (v := ?_) rfl (by kernel_rfl) (fun _ _ _ h => h) rfl ?_ hS ?_
  rotate_left
  · intro W hW; go_simp; (try with_reducible rfl)
  simp only [Act.put, List.setIfInBounds_toArray, List.set_cons_zero, List.set_cons_succ]
  refine tkYes 28 (v := ?_) rfl (by kernel_rfl) (fun _ _ _ h => h) rfl ?_ hS ?_
  rotate_left
  · intro W hW; go_simp; (try with_reducible rfl)
  simp only [Act.put, List.setIfInBounds_toArray, List.set_cons_zero, List.set_cons_succ]
  refine tkYes 29 (v := ?_) rfl (by kernel_rfl) (fun _ _ _ h => h) rfl ?_ hS ?_
  rotate_left
  · intro W hW; go_simp; (try with_reducible rfl)
  simp only [Act.put, List.setIfInBounds_toArray, List.set_cons_zero, List.set_cons_succ]
  refine tkYes 31 (v := ?_) rfl (by kernel_rfl) (fun _ _ _ h => h) rfl ?_ hS ?_
  rotate_left
  · intro W hW; go_simp; (try with_reducible rfl)
  simp only [Act.put, List.setIfInBounds_toArray, List.set_cons_zero, List.set_cons_succ]
  refine rnOne 30 rfl (by kernel_rfl) rfl (fun K hK => ?_)
  go_simp
  (with_reducible refine (dSafe_at _ D7.out).mono ?_)
  rintro e w8 ⟨rfl, hb8⟩
  have D8 := Lib.hid (D7.out.below hb8)
  have hS2 := hS.trans (hb8.mono hS.size)
  clear hb8 hS
  have hS := hS2
  clear hS2
  refine hK.out _ _ hS (fun _ => ?_)
  clear hK K
  try simp only [Act.put, List.setIfInBounds_toArray, List.set_cons_zero, List.set_cons_succ]
  refine rnOne 32 rfl (by kernel_rfl) rfl (fun K hK => ?_)
  go_simp
  (with_reducible refine (dLen_at _ D8.out).mono ?_)
  rintro e w9 ⟨rfl, hb9⟩
  have D9 := Lib.hid (D8.out.below hb9)
  have hS2 := hS.trans (hb9.mono hS.size)
  clear hb9 hS
  have hS := hS2
  clear hS2
  refine hK.out _ _ hS (fun _ => ?_)
  clear hK K
  try simp only [Act.put, List.setIfInBounds_toArray, List.set_cons_zero, List.set_cons_succ]
  refine tkYes 33 (v := ?_) rfl (by kernel_rfl) (fun _ _ _ h => h) rfl ?_ hS ?_
  rotate_left
  · intro W hW; go_simp; (try with_reducible rfl)
  simp only [Act.put, List.setIfInBounds_toArray, List.set_cons_zero, List.set_cons_succ]
  refine tkYes 34 (v := ?_) rfl (by kernel_rfl) (fun _ _ _ h => h) rfl ?_ hS ?_
  rotate_left
  · intro W hW; go_simp; (try with_reducible rfl)
  simp only [Act.put, List.setIfInBounds_toArray, List.set_cons_zero, List.set_cons_succ]
  refine tkYes 35 (v := ?_) rfl (by kernel_rfl) (fun _ _ _ h => h) rfl ?_ hS ?_
  rotate_left
  · intro W hW; go_simp; (try with_reducible rfl)
  simp only [Act.put, List.setIfInBounds_toArray, List.set_cons_zero, List.set_cons_succ]
  refine tkYes 36 (v := ?_) rfl (by kernel_rfl) (fun _ _ _ h => h) rfl ?_ hS ?_
  rotate_left
  · intro W hW; go_simp; (try with_reducible rfl)
  simp only [Act.put, List.setIfInBounds_toArray, List.set_cons_zero, List.set_cons_succ]
  refine tkYes 37 (v := ?_) rfl (by kernel_rfl) (fun _ _ _ h => h) rfl ?_ hS ?_
  rotate_left
  · intro W hW; go_simp; (try with_reducible rfl)
  simp only [Act.put, List.setIfInBounds_toArray, List.set_cons_zero, List.set_cons_succ]
  refine rnOne 38 rfl (by kernel_rfl) rfl (fun K hK => ?_)
  go_simp
  (with_reducible refine (dCrash_at _ hS D9.out HK.out).mono ?_)
  rw [C2.out.1, C2.out.2]
  rintro e w10 ⟨rfl, hd10, hb10⟩
  have D10 := Lib.hid hd10
  clear hd10 hS
  have hS := hb10
  clear hb10
  refine hK.out _ _ hS (fun _ => ?_)
  clear hK K
  try simp only [Act.put, List.setIfInBounds_toArray, List.set_cons_zero, List.set_cons_succ]
  refine tkYes 39 (v := ?_) rfl (by kernel_rfl) (fun _ _ _ h => h) rfl ?_ hS ?_
  rotate_left
  · intro W hW; go_simp; (try with_reducible rfl)
  simp only [Act.put, List.setIfInBounds_toArray, List.set_cons_zero, List.set_cons_succ]
  refine tkYes 40 (v := ?_) rfl (by kernel_rfl) (fun _ _ _ h => h) rfl ?_ hS ?_
  rotate_left
  · intro W hW; go_simp; (try with_reducible rfl)
  simp only [Act.put, List.setIfInBounds_toArray, List.set_cons_zero, List.set_cons_succ]
  refine tkYes 41 (v := ?_) rfl (by kernel_rfl) (fun _ _ _ h => h) rfl ?_ hS ?_
  rotate_left
  · intro W hW; go_simp; (try with_reducible rfl)
  simp only [Act.put, List.setIfInBounds_toArray, List.set_cons_zero, List.set_cons_succ]
  refine tkYes 42 (v := ?_) rfl (by kernel_rfl) (fun _ _ _ h => h) rfl ?_ hS ?_
  rotate_left
  · intro W hW; go_simp; (try with_reducible rfl)
  simp only [Act.put, List.setIfInBounds_toArray, List.set_cons_zero, List.set_cons_succ]
  refine rnOne 43 rfl (by kernel_rfl) rfl (fun K hK => ?_)
  go_simp
  (with_reducible refine (dSync_at _ hS D10.out).mono ?_)
  rw [C3.out.1, C3.out.2]
  rintro e w11 ⟨rfl, hd11, hb11⟩
  clear hd11 hS
  have hS := hb11
  clear hb11
  refine hK.out _ _ hS (fun _ => ?_)
  clear hK K
  try simp only [Act.put, List.setIfInBounds_toArray, List.set_cons_zero, List.set_cons_succ]
  refine tkYes 44 (v := ?_) rfl (by kernel_rfl) (fun _ _ _ h => h) rfl ?_ hS ?_
  rotate_left
  · intro W hW; go_simp; (try with_reducible rfl)
  simp only [Act.put, List.setIfInBounds_toArray, List.set_cons_zero, List.set_cons_succ]
  refine tkYes 45 (v := ?_) rfl (by kernel_rfl) (fun _ _ _ h => h) rfl ?_ hS ?_
  rotate_left
  · intro W hW; go_simp; (try with_reducible rfl)
  simp only [Act.put, List.setIfInBounds_toArray, List.set_cons_zero, List.set_cons_succ]
  refine tkYes 46 (v := ?_) rfl (by kernel_rfl) (fun _ _ _ h => h) rfl ?_ hS ?_
  rotate_left
  · intro W hW; go_simp; (try with_reducible rfl)
  simp only [Act.put, List.setIfInBounds_toArray, List.set_cons_zero, List.set_cons_succ]
  refine wpAnyH_done (by kernel_rfl) ?_ _
  go_wp2_with fail
  go_ret
  exact ⟨rfl, hS⟩
end Go.Proofs.Ytoapdkncddhgiaa
