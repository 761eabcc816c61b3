/-
  Package num: Share; the document's own Share; Same: what they answer, from any world.
-/
import Derived.Test.YtghbaoliokkfhaaNumB
import Derived.Deep.OwnRows
import Derived.Deep.Draws
import Derived.Deep.QuietTactic
import Derived.BigQuiet
import Derived.Lib.MinMax
namespace Go.Proofs.Ytghbaoliokkfhaa
open Go.RowKit

/-- In how many parts; the i-th of them. -/
def prts (p : Int) : Nat := (max 1 (min p 64)).toNat
theorem prts_is (p : Int) : max 1 (min p 64) = ((prts p : Nat) : Int) := by unfold prts; omega
theorem prts_bd (p : Int) : 1 ≤ prts p ∧ prts p ≤ 64 := by unfold prts; omega
def part (n : Int) (k i : Nat) : Int := cut n / (k : Int) + if (i : Int) < cut n % (k : Int) then 1 else 0
/-- The row when the parts below m are there. -/
def partAt (n : Int) (k m i : Nat) : Value := .int .i64 (if i < m then part n k i else 0)
def partV (n : Int) (k i : Nat) : Value := .int .i64 (part n k i)
theorem partAt_zero (n : Int) (k i : Nat) : partAt n k 0 i = .int .i64 0 := by unfold partAt; simp
theorem info_int : (Try.prog.info? 3).map (fun i => (i.zero, i.size, i.bytes)) = some (some (.int .i64 0), 1, 8) := by kernel_rfl
theorem int_eq {k : IntKind} {a b : Int} (h : a = b) : Value.int k a = .int k b := by rw [h]

theorem cut_same (n : Int) (w : World) : Calls Try.prog 15 #[.int .i64 n] w fun e w' => e = .returned (.int .i64 (cut n)) ∧ w' = w :=
  (cut_any n w).mono fun _ _ ⟨he, hw⟩ => ⟨he, hw.symm⟩

theorem part_put {w : World} {g k m : Nat} {t : TypeId} {n : Int} {v : Value} (h : w.rowIs g t k (partAt n k m)) (hv : v = partV n k m) : (w.setCell ⟨g, m, none⟩ v).rowIs g t k (partAt n k (m + 1)) := by
  refine (h.set m v).congr fun i _ => ?_
  by_cases e : i = m
  · subst e; rw [if_pos rfl, hv]; unfold partAt partV; rw [if_pos (by omega)]
  · rw [if_neg e]; unfold partAt
    by_cases h1 : i < m
    · rw [if_pos h1, if_pos (by omega)]
    · rw [if_neg h1, if_neg (by omega)]

theorem part_put2 {w : World} {g k m : Nat} {t : TypeId} {n : Int} {u v : Value} (h : w.rowIs g t k (partAt n k m)) (hv : v = partV n k m) : ((w.setCell ⟨g, m, none⟩ u).setCell ⟨g, m, none⟩ v).rowIs g t k (partAt n k (m + 1)) := by
  refine ((h.set m u).set m v).congr fun i hi => ?_
  by_cases e : i = m
  · subst e; rw [if_pos rfl, hv]; unfold partAt partV; rw [if_pos (by omega)]
  · rw [if_neg e, if_neg e]; unfold partAt
    by_cases h1 : i < m
    · rw [if_pos h1, if_pos (by omega)]
    · rw [if_neg h1, if_neg (by omega)]
theorem quo_bd {c : Int} {k : Nat} (h1 : 0 ≤ c) (h2 : c ≤ 1048576) (hk : 1 ≤ k) : 0 ≤ c / (k : Int) ∧ c / (k : Int) ≤ 1048576 :=
  ⟨Int.ediv_nonneg h1 (by omega), Int.le_trans (Int.ediv_le_self _ h1) h2⟩
theorem below_drewN {B : Nat} {a w : World} (h : Below B a w) (n : Nat) : Below B a (w.drewN n) := ⟨h.os, h.tape, h.output, h.size, h.block⟩

def SharePost (n : Int) (k : Nat) (w : World) (e : Ending) (w' : World) : Prop :=
  ∃ g, e = .returned (.slice (some ⟨g, 0, none⟩) k k) ∧ w'.rowIs g 3 k (partV n k) ∧ w.heap.size ≤ g ∧ Below w.heap.size w w'

set_option maxHeartbeats 400000 in
theorem share_any (n p : Int) (w : World) :
    Calls Try.prog 25 #[.int .i64 n, .int .i64 p] w (SharePost n (prts p) w) := by
  obtain ⟨c1, c2⟩ := cut_bd n
  obtain ⟨k1, k2⟩ := prts_bd p
  have HP := Lib.hid (prts_is p)
  generalize prts p = k at *
  have hmk := run_make_row' (P := Try.prog) 32 3 (.int .i64 0) 8 Try.underlying32 info_int rfl .i64 .i64 k (by omega) (by omega)
  go_enter Try.func25, Try.ntmps25
  go_wp2_with fail
  refine (within_any p 1 64 w).mono ?_
  rintro e w' ⟨rfl, rfl⟩
  rw [HP.out]
  go_wp2_with fail
  have R0 := Lib.hid (World.rowIs_made w (.int .i64 0) k 3)
  have B0 := Lib.hid ((Below.refl w.heap.size w).alloc (Nat.le_refl _) (.cells (madeCells #[.int .i64 0] k) 3))
  clear hmk
  generalize w.alloc (.cells (madeCells #[.int .i64 0] k) 3) = w1 at *
  go_quiet ((go_at_call 15; exact Calls.quiet_of_same (cut_same _ _)))
  go_wp2_with fail
  have hq := quo_bd c1 c2 k1
  obtain ⟨q1, q2⟩ := hq
  have HV : Hid (∀ i, part n k i = cut n / (k : Int) + if (i : Int) < cut n % (k : Int) then 1 else 0) := fun _ => rfl
  generalize cut n / (k : Int) = q at *
  generalize cut n % (k : Int) = r at *
  go_loopw [24] (fun i wr => ∃ m : Nat, m ≤ k ∧ i = .int .i64 m ∧ wr.rowIs w.heap.size 3 k (partAt n k m) ∧ Below w.heap.size w wr) (fun i _ => k - (intOf i).toNat)
  case atStart => exact ⟨0, by omega, rfl, (R0.out.congr fun i _ => (partAt_zero n k i).symm).of_block rfl, below_drewN B0.out _⟩
  case round =>
    obtain ⟨m, hm, rfl, hr, hb⟩ := hrel
    clear R0 B0
    by_cases hlt : m < k
    · have hc := hr.cell (i := m) hlt
      have hf := hr.frozen m
      have R := Lib.hid hr; clear hr
      have B := Lib.hid hb; clear hb
      by_cases hmr : (m : Int) < r
      · have V : Hid (Value.int .i64 (q + 1) = partV n k m) := by show _ = _; unfold partV; rw [HV.out, if_pos hmr]
        go_wp2_with fail
        refine ⟨⟨m + 1, by omega, by go_num, ?_, ?_⟩, by simp [intOf]; omega⟩
        · exact part_put2 R.out V.out
        · exact (B.out.setCell (by simp) _).setCell (by simp) _
      · have V : Hid (Value.int .i64 q = partV n k m) := by show _ = _; unfold partV; rw [HV.out, if_neg hmr, Int.add_zero]
        go_wp2_with fail
        refine ⟨⟨m + 1, by omega, by go_num, ?_, ?_⟩, by simp [intOf]; omega⟩
        · exact part_put R.out V.out
        · exact B.out.setCell (by simp) _
    · obtain rfl : m = k := by omega
      have R := Lib.hid hr; clear hr
      have B := Lib.hid hb; clear hb
      go_wp2_with fail
      go_ret
      exact ⟨w.heap.size, rfl, R.out.congr (fun i hi => by unfold partAt partV; rw [if_pos hi]), Nat.le_refl _, B.out⟩

/-- Two rows that read alike. -/
theorem same_any (k g1 g2 c1 c2 : Nat) (f : Nat → Int) (w : World) (hk : k ≤ 1000) (h1 : ∀ i, i < k → w.cell? ⟨g1, i, none⟩ = some (.int .i64 (f i))) (h2 : ∀ i, i < k → w.cell? ⟨g2, i, none⟩ = some (.int .i64 (f i))) :
    Calls Try.prog 26 #[.slice (some ⟨g1, 0, none⟩) k c1, .slice (some ⟨g2, 0, none⟩) k c2] w fun e w' => e = .returned (.bool true) ∧ Below w.heap.size w w' := by
  have H1 := Lib.hid h1; clear h1
  have H2 := Lib.hid h2; clear h2
  go_enter Try.func26, Try.ntmps26
  go_wp2_with fail
  go_loopw [5] (fun i wr => ∃ m : Nat, m ≤ k ∧ i = .int .i64 m ∧ ∃ d, wr = w.drewN d) (fun i _ => k - (intOf i).toNat)
  case atStart => exact ⟨0, by omega, rfl, 0, rfl⟩
  case round =>
    obtain ⟨m, hm, rfl, d, rfl⟩ := hrel
    by_cases hlt : m < k
    · have e1 := H1.out m hlt
      have e2 := H2.out m hlt
      have b1 : (0 : Int) ≤ (m : Int) := by omega
      have b2 : (m : Int) < (k : Int) := by omega
      go_wp2_with fail
      go_quiet (fail)
      go_wp2_with fail
      refine ⟨⟨m + 1, by omega, by go_num, _, rfl⟩, by simp [intOf]; omega⟩
    · obtain rfl : m = k := by omega
      go_wp2_with fail
      go_ret
      exact ⟨rfl, below_drewN (Below.refl _ _) _⟩

def rA (q : Int) (m i : Nat) : Value := .int .i64 (if i < m then q else 0)
def rB (q : Int) (m i : Nat) : Value := .int .i64 (if i < m then q + 1 else q)
theorem rA_put {w : World} {g k m : Nat} {t : TypeId} {q : Int} (h : w.rowIs g t k (rA q m)) : (w.setCell ⟨g, m, none⟩ (.int .i64 q)).rowIs g t k (rA q (m + 1)) := by
  refine (h.set m _).congr fun i _ => ?_
  unfold rA
  by_cases e : i = m
  · subst e; rw [if_pos rfl, if_pos (by omega)]
  · rw [if_neg e]
    by_cases h1 : i < m
    · rw [if_pos h1, if_pos (by omega)]
    · rw [if_neg h1, if_neg (by omega)]
theorem rB_put {w : World} {g k m : Nat} {t : TypeId} {q : Int} (h : w.rowIs g t k (rB q m)) : (w.setCell ⟨g, m, none⟩ (.int .i64 (q + 1))).rowIs g t k (rB q (m + 1)) := by
  refine (h.set m _).congr fun i _ => ?_
  unfold rB
  by_cases e : i = m
  · subst e; rw [if_pos rfl, if_pos (by omega)]
  · rw [if_neg e]
    by_cases h1 : i < m
    · rw [if_pos h1, if_pos (by omega)]
    · rw [if_neg h1, if_neg (by omega)]
theorem rB_part {n : Int} {k j : Nat} (h : (j : Int) = cut n % (k : Int)) (i : Nat) : rB (cut n / (k : Int)) j i = partV n k i := by
  unfold rB partV part
  rw [← h]
  by_cases e : i < j
  · rw [if_pos e, if_pos (by omega)]
  · rw [if_neg e, if_neg (by omega), Int.add_zero]
theorem rem_bd {c : Int} {k : Nat} (hk : 1 ≤ k) : 0 ≤ c % (k : Int) ∧ c % (k : Int) < k :=
  ⟨Int.emod_nonneg _ (by omega), Int.emod_lt_of_pos _ (by omega)⟩

set_option maxHeartbeats 400000 in
theorem refShare_any (n p : Int) (w : World) :
    Calls Try.prog 27 #[.int .i64 n, .int .i64 p] w (SharePost n (prts p) w) := by
  obtain ⟨c1, c2⟩ := cut_bd n
  obtain ⟨k1, k2⟩ := prts_bd p
  have hmm : min (max p 1) 64 = ((prts p : Nat) : Int) := by unfold prts; omega
  generalize prts p = k at *
  have hmk := run_make_row' (P := Try.prog) 32 3 (.int .i64 0) 8 Try.underlying32 info_int rfl .i64 .i64 k (by omega) (by omega)
  obtain ⟨q1, q2⟩ := quo_bd c1 c2 k1
  obtain ⟨r1, r2⟩ := rem_bd (c := cut n) k1
  go_enter Try.func27, Try.ntmps27
  go_wp2_with fail
  have R0 := Lib.hid (World.rowIs_made w (.int .i64 0) k 3)
  have B0 := Lib.hid ((Below.refl w.heap.size w).alloc (Nat.le_refl _) (.cells (madeCells #[.int .i64 0] k) 3))
  clear hmk hmm
  generalize w.alloc (.cells (madeCells #[.int .i64 0] k) 3) = w1 at *
  go_loopw [6] (fun i wr => ∃ m : Nat, m ≤ k ∧ i = .int .i64 m ∧ wr.rowIs w.heap.size 3 k (rA (cut n / (k : Int)) m) ∧ Below w.heap.size w wr) (fun i _ => k - (intOf i).toNat)
  case atStart => exact ⟨0, by omega, rfl, R0.out.congr fun i _ => by unfold rA; simp, B0.out⟩
  case round =>
    obtain ⟨m, hm, rfl, hr, hb⟩ := hrel
    clear R0 B0
    by_cases hlt : m < k
    · have hc := hr.cell (i := m) hlt
      have hf := hr.frozen m
      have R := Lib.hid hr; clear hr
      have B := Lib.hid hb; clear hb
      go_wp2_with ((with_reducible refine (refCut_any _ _).mono ?_); rintro e w' ⟨rfl, rfl⟩)
      exact ⟨⟨m + 1, by omega, by go_num, rA_put R.out, B.out.setCell (by simp) _⟩, by simp [intOf]; omega⟩
    · obtain rfl : m = k := by omega
      have R : Hid (wr.rowIs w.heap.size 3 m (rB (cut n / (m : Int)) 0)) := hr.congr fun i hi => by unfold rA rB; rw [if_pos hi]; simp
      have B := Lib.hid hb; clear hb hr hm hlt
      go_wp2_with fail
      obtain ⟨wo, rfl⟩ : ∃ wo : World, wo = wr := ⟨_, rfl⟩
      go_loopw [7] (fun i wr => ∃ j : Nat, (j : Int) ≤ cut n % (m : Int) ∧ i = .int .i64 j ∧ wr.rowIs w.heap.size 3 m (rB (cut n / (m : Int)) j) ∧ Below w.heap.size w wr) (fun i _ => m - (intOf i).toNat)
      case atStart => exact ⟨0, by omega, rfl, R.out, B.out⟩
      case round =>
        obtain ⟨j, hj, rfl, hr, hb⟩ := hrel
        clear R B
        by_cases hlt : (j : Int) < cut n % (m : Int)
        · have hc := hr.cell (i := j) (by omega)
          have hf := hr.frozen j
          rw [show rB (cut n / (m : Int)) j j = .int .i64 (cut n / (m : Int)) from by unfold rB; rw [if_neg (by omega)]] at hc
          have R := Lib.hid hr; clear hr
          have B := Lib.hid hb; clear hb
          go_wp2_with ((with_reducible refine (refCut_any _ _).mono ?_); rintro e w' ⟨rfl, rfl⟩)
          exact ⟨⟨j + 1, by omega, by go_num, rB_put R.out, B.out.setCell (by simp) _⟩, by simp [intOf]; omega⟩
        · have hj2 : (j : Int) = cut n % (m : Int) := by omega
          have J := Lib.hid hj2; clear hj2
          have R := Lib.hid hr; clear hr
          have B := Lib.hid hb; clear hb
          go_wp2_with ((with_reducible refine (refCut_any _ _).mono ?_); rintro e w' ⟨rfl, rfl⟩)
          go_ret
          exact ⟨w.heap.size, rfl, R.out.congr (fun i hi => rB_part J.out i), Nat.le_refl _, B.out⟩
end Go.Proofs.Ytghbaoliokkfhaa
