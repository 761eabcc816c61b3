/-
  moveByte and makeEffects of package crc: what they answer, from any world. No condition but that the word is one of 32 bits.
-/
import Derived.Test.YtdamnamhbjfnlaaRows
import Derived.Test.YtdamnamhbjfnlaaCrcMath
import Derived.Test.YtdamnamhbjfnlaaBase
import Derived.WalkKit
import Derived.ProofKit
import Derived.OpenShut
import Derived.Below
import Derived.Outline
import Derived.Lib.Hide
import Derived.Laws.BitsAllLaws
import Derived.Laws.Rows
import Derived.Deep.WholeRow
import Derived.Deep.OwnRows
import Derived.Laws.CopyOwn
namespace Go.Proofs.Ytdamnamhbjfnlaa
open Go.RowKit

theorem odd_of (m : Nat) (hm : m < 4294967296) : bits .and .u32 (m : Int) 1 = ((m % 2 : Nat) : Int) := by
  rw [show (1 : Int) = ((1 : Nat) : Int) from rfl, u32_and_nat m 1 hm (by omega), nat_mask1]
theorem mv1_odd (m : Nat) (hm : m < 4294967296) (h : (bits .and .u32 (m : Int) 1 == 1) = true) : bits .xor .u32 ((m : Int) / 2) 3988292384 = ((Crc.mv1 m : Nat) : Int) := by
  rw [odd_of m hm, beq_iff_eq] at h
  unfold Crc.mv1
  rw [if_pos (by omega), show (m : Int) / 2 = ((m / 2 : Nat) : Int) from rfl, show (3988292384 : Int) = ((3988292384 : Nat) : Int) from rfl, u32_xor_nat _ _ (by omega) (by omega)]
theorem mv1_even (m : Nat) (hm : m < 4294967296) (h : (bits .and .u32 (m : Int) 1 == 1) = false) : (m : Int) / 2 = ((Crc.mv1 m : Nat) : Int) := by
  rw [odd_of m hm, beq_eq_false_iff_ne] at h
  unfold Crc.mv1
  rw [if_neg (by omega)]; rfl
set_option maxHeartbeats 400000 in
theorem moveByte_any (n : Nat) (w : World) (hn : n < 4294967296) :
    Calls Try.prog 80 #[.int .u32 n] w fun e w' => e = .returned (.int .u32 (Crc.mv8 n)) ∧ w = w' := by
  go_enter Try.func80, Try.ntmps80
  go_wp2
  go_loop [0, 4] (fun v i => ∃ k : Nat, k ≤ 8 ∧ i = .int .i64 k ∧ v = .int .u32 (Crc.mvN k n)) (fun _ i => 8 - (intOf i).toNat)
  case atStart => exact ⟨0, by omega, rfl, rfl⟩
  case round =>
    obtain ⟨k, hk, rfl, rfl⟩ := hrel
    have hm := Crc.mvN_lt hn k
    go_wp2
    · have h1 : (k : Int) < 8 := by assumption
      have h2 : (bits BinOp.and IntKind.u32 (↑(Crc.mvN k n)) 1 == 1) = true := by assumption
      refine ⟨⟨k + 1, by omega, rfl, int_eq ?_⟩, by simp [intOf]; omega⟩
      exact mv1_odd _ hm h2
    · have h1 : (k : Int) < 8 := by assumption
      have h2 : (bits BinOp.and IntKind.u32 (↑(Crc.mvN k n)) 1 == 1) = false := by assumption
      refine ⟨⟨k + 1, by omega, rfl, int_eq ?_⟩, by simp [intOf]; omega⟩
      exact mv1_even _ hm h2
    · have h1 : 8 ≤ (k : Int) := by assumption
      obtain rfl : k = 8 := by omega
      go_ret
      exact ⟨rfl, rfl⟩

/-- 256 zeros. -/
def zrow : Array Value := Array.replicate 256 (.int .u32 0)
theorem zrow_at (i : Nat) (h : i < 256) : zrow[i]? = some (.int .u32 0) := by simp [zrow, h]
theorem zrow_size : zrow.size = 256 := by simp [zrow]
/-- The array when the entries below m are made. -/
def effAt (m i : Nat) : Value := .int .u32 (((if i < m then Crc.mv8 i else 0 : Nat) : Nat) : Int)
/-- A power of 2 up to 256. -/
def Pow (p : Nat) : Prop := ∃ j, j ≤ 8 ∧ p = 2 ^ j
theorem Pow.le {p : Nat} (h : Pow p) : 1 ≤ p ∧ p ≤ 256 := by
  obtain ⟨j, hj, rfl⟩ := h
  exact ⟨Nat.pos_of_ne_zero (by simp), (Nat.pow_le_pow_right (by omega) hj : 2 ^ j ≤ 2 ^ 8)⟩
theorem Pow.twice {p : Nat} (h : Pow p) (hp : p < 256) : Pow (p * 2) := by
  obtain ⟨j, hj, rfl⟩ := h
  have : j ≠ 8 := by rintro rfl; omega
  exact ⟨j + 1, by omega, by rw [Nat.pow_succ]⟩
theorem Pow.half {p : Nat} (h : Pow p) (hp : p < 256) : p ≤ 128 := by have := (h.twice hp).le; omega
theorem Pow.put {p r : Nat} (h : Pow p) (hp : p < 256) (hr : r < p) : Crc.mv8 (p + r) = Crc.mv8 p ^^^ Crc.mv8 r := by
  obtain ⟨j, hj, rfl⟩ := h
  have : j ≠ 8 := by rintro rfl; omega
  exact Crc.eff_put j (by omega) r hr
theorem Pow.one : Pow 1 := ⟨0, by omega, rfl⟩
/-- An array that holds what each byte does. -/
def IsEff (c : Array Value) : Prop := c.size = 256 ∧ ∀ i, i < 256 → c[i]? = some (.int .u32 ((Crc.mv8 i : Nat) : Int))
def EffPost (w : World) (e : Ending) (w' : World) : Prop := ∃ c, e = .returned (.agg c) ∧ IsEff c ∧ Below w.heap.size w w'

theorem effAt_lt {m i : Nat} (h : i < m) : effAt m i = .int .u32 ((Crc.mv8 i : Nat) : Int) := by unfold effAt; rw [if_pos h]
theorem eff_step {w : World} {g m : Nat} {t : TypeId} {v : Value} (h : w.rowIs g t 256 (effAt m)) (hv : v = .int .u32 ((Crc.mv8 m : Nat) : Int)) : (w.setCell ⟨g, m, none⟩ v).rowIs g t 256 (effAt (m + 1)) := by
  refine (h.set m v).congr fun i _ => ?_
  by_cases e : i = m
  · subst e; rw [if_pos rfl, hv, effAt_lt (by omega)]
  · rw [if_neg e]; unfold effAt
    by_cases h1 : i < m
    · rw [if_pos h1, if_pos (by omega)]
    · rw [if_neg h1, if_neg (by omega)]
theorem eff_val {p r : Nat} (h : Pow p) (hp : p < 256) (hr : r < p) : Value.int .u32 (bits .xor .u32 ((Crc.mv8 p : Nat) : Int) ((Crc.mv8 r : Nat) : Int)) = .int .u32 ((Crc.mv8 (p + r) : Nat) : Int) := by
  rw [u32_xor_nat _ _ (Crc.mv8_lt (by omega)) (Crc.mv8_lt (by omega)), h.put hp hr]
theorem isEff_of {w : World} {g : Nat} {t : TypeId} (h : w.rowIs g t 256 (effAt 256)) : ∃ c, w.heap[g]? = some (.cells c t (0, 0)) ∧ IsEff c := by
  obtain ⟨c, hc, hs, hi⟩ := h
  exact ⟨c, hc, hs, fun i h => by rw [hi i h, effAt_lt h]⟩
theorem IsEff.one {c : Array Value} (h : IsEff c) : c.all (·.oneCell') = true := by
  rw [Array.all_eq_true]
  intro i hi
  have := h.2 i (by have := h.1; omega)
  rw [Array.getElem?_eq_getElem hi] at this
  injection this with this
  rw [this]; rfl

theorem zeroArr (w : World) : (zeroValue 96).run Try.prog w = .ok (.agg zrow) w := by kernel_rfl

set_option maxRecDepth 100000 in
set_option maxHeartbeats 400000 in
theorem makeEffects_any (w : World) :
    Calls Try.prog 79 #[] w (EffPost w) := by
  have hz := zeroArr
  go_enter Try.func79, Try.ntmps79
  go_wp2_with fail
  go_loopw [2] (fun b wr => ∃ p : Nat, p ≤ 256 ∧ b = .int .i64 p ∧ Pow p ∧ wr.rowIs (w.heap.size + 1) 96 256 (effAt p) ∧ wr.rowIs w.heap.size 96 256 (fun _ => .int .u32 0) ∧ Below w.heap.size w wr) (fun b _ => 512 - (intOf b).toNat)
  case atStart =>
    have g0 := World.rowIs_alloc w zrow 96 (fun _ => .int .u32 0) (fun i hi => zrow_at i (by rw [zrow_size] at hi; exact hi))
    have g1 := World.rowIs_alloc (w.alloc (.cells zrow 96)) zrow 96 (effAt 1) (fun i hi => by
      rw [zrow_at i (by rw [zrow_size] at hi; exact hi)]
      unfold effAt
      split
      · rename_i h; obtain rfl : i = 0 := by omega
        rfl
      · rfl)
    rw [zrow_size] at g0 g1
    exact ⟨1, by omega, rfl, Pow.one, by simpa using g1, g0.alloc _, ((Below.refl _ _).alloc (Nat.le_refl _) _).alloc (by simp) _⟩
  case round =>
    obtain ⟨p, hp, rfl, hpow, hr1, hr0, hb⟩ := hrel
    have hp1 := hpow.le.1
    have H1 := Lib.hid hr1; clear hr1
    have H0 := Lib.hid hr0; clear hr0
    have HB := Lib.hid hb; clear hb
    have HP := Lib.hid hpow; clear hpow hz
    by_cases hlt : p < 256
    · have hh : p ≤ 128 := HP.out.half hlt
      go_wp2_with fail
      refine (moveByte_any p _ (by omega)).mono ?_
      rintro e w1 ⟨rfl, rfl⟩
      go_wp2_with fail
      obtain ⟨wo, rfl⟩ : ∃ wo : World, wo = wr := ⟨_, rfl⟩
      go_loopw [13] (fun k wr' => ∃ r : Nat, r ≤ p ∧ k = .int .i64 r ∧ wr'.rowIs (w.heap.size + 1) 96 256 (effAt (p + r)) ∧ wr'.rowIs w.heap.size 96 256 (fun _ => .int .u32 0) ∧ Below w.heap.size w wr') (fun k _ => p - (intOf k).toNat)
      case atStart => exact ⟨0, by omega, rfl, H1.out, H0.out, HB.out⟩
      case round =>
        obtain ⟨r, hr, rfl, hr1, hr0, hb⟩ := hrel
        clear H1 H0 HB
        by_cases hlt2 : r < p
        · have hc1 := hr1.cell (i := r) (by omega)
          have hc2 := hr1.cell (i := p + r) (by omega)
          have hf2 := hr1.frozen (p + r)
          rw [effAt_lt (by omega)] at hc1
          have H1 := Lib.hid hr1; clear hr1
          have H0 := Lib.hid hr0; clear hr0
          have HB := Lib.hid hb; clear hb
          go_wp2_with fail
          refine ⟨⟨r + 1, by omega, rfl, eff_step H1.out (eff_val HP.out hlt hlt2), H0.out.setOther (by simp) _, HB.out.setCell (by simp) _⟩, by simp [intOf]; omega⟩
        · obtain rfl : r = p := by omega
          have H1 := Lib.hid hr1; clear hr1
          have H0 := Lib.hid hr0; clear hr0
          have HB := Lib.hid hb; clear hb
          go_wp2_with fail
          refine ⟨⟨r * 2, by omega, by go_num, HP.out.twice hlt, by rw [Nat.mul_two]; exact H1.out, H0.out, HB.out⟩, by simp [intOf]; omega⟩
    · obtain rfl : p = 256 := by omega
      obtain ⟨c, hc, he⟩ := isEff_of H1.out
      obtain ⟨z, hz, hzs, _⟩ := H0.out
      have hcs : (Try.prog.info? 96).map (·.size) = some c.size := by rw [he.1]; kernel_rfl
      have hu : Try.prog.underlying 96 = some (.array 256 90) := by kernel_rfl
      have HC := Lib.hid hc; clear hc
      have HZ := Lib.hid hz; clear hz
      have HS := Lib.hid hzs; clear hzs
      have HE := Lib.hid he; clear he
      have HI := Lib.hid hcs; clear hcs
      have HU := Lib.hid hu; clear hu
      clear hlt hp hp1
      go_wp2_with (first
        | (refine wpList_load_row rfl 96 (.tmp 1) rfl (w.heap.size + 1) rfl 96 c (0, 0) _ HC.out HU.out rfl HI.out ?_)
        | (refine wpList_store_row rfl 96 (.tmp 0) (.tmp 26) rfl w.heap.size c rfl rfl 96 z HZ.out HI.out (HS.out.trans HE.out.1.symm) HE.out.one ?_))
      exact bodyPost_ret (results_cell_row rfl _ _ w.heap.size 96 c (0, 0) _ rfl (setRow_heap wr _ z c 96 _ HZ.out) HU.out rfl HI.out) rfl ⟨c, rfl, HE.out, below_setRow HB.out (Nat.le_refl _) c⟩
end Go.Proofs.Ytdamnamhbjfnlaa
