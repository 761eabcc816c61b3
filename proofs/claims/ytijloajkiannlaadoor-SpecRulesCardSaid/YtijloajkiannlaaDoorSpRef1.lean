/-
  The document's package of layer 7: numbers within bounds, made of any, and their digits.
-/
import Derived.Test.YtijloajkiannlaaDoorSpText
import Derived.Test.YtijloajkiannlaaDoorBase
import Derived.Test.YtijloajkiannlaaDoorTx
import Derived.Test.YtijloajkiannlaaDoorInts
namespace Go.Proofs.YtijloajkiannlaaDoor
open Go.RowKit

theorem rin_any (n lo hi : Int) (w : World) : Calls Tryd.prog 36 #[.int .i64 n, .int .i64 lo, .int .i64 hi] w fun e w' => e = .returned (.bool (Spc.inn n lo hi)) ∧ w' = w := by
  have HI : Hid (Spc.inn n lo hi = (decide (lo ≤ n) && decide (n ≤ hi))) := rfl
  by_cases h1 : lo ≤ n
  · by_cases h2 : n ≤ hi
    · have e : Spc.inn n lo hi = true := Spc.inn_iff.2 ⟨h1, h2⟩
      rw [e]
      clear HI e
      go_enter Tryd.func36, Tryd.ntmps36
      go_wp2_with fail
      go_ret
      exact ⟨rfl, rfl⟩
    · have e : Spc.inn n lo hi = false := by rw [HI.out, Bool.and_eq_false_iff, decide_eq_false_iff_not, decide_eq_false_iff_not]; exact .inr h2
      rw [e]
      clear HI e
      go_enter Tryd.func36, Tryd.ntmps36
      go_wp2_with fail
      go_ret
      exact ⟨rfl, rfl⟩
  · have e : Spc.inn n lo hi = false := by rw [HI.out, Bool.and_eq_false_iff, decide_eq_false_iff_not, decide_eq_false_iff_not]; exact .inl h1
    rw [e]
    clear HI e
    go_enter Tryd.func36, Tryd.ntmps36
    go_wp2_with fail
    go_ret
    exact ⟨rfl, rfl⟩
theorem rnear_any (n least many : Int) (hl : 0 ≤ least ∧ least ≤ 1000) (hm : 0 < many ∧ many ≤ 1000) (w : World) : Calls Tryd.prog 24 #[.int .i64 n, .int .i64 least, .int .i64 many] w fun e w' => e = .returned (.int .i64 (Spc.near n least many)) ∧ w' = w := by
  have HN : Hid (Spc.near n least many = least + n % 18446744073709551616 % many) := rfl
  have h1 := Int.emod_nonneg n (b := 18446744073709551616) (by omega)
  have h2 := Int.emod_lt_of_pos n (b := 18446744073709551616) (by omega)
  have h3 := Int.emod_nonneg (n % 18446744073709551616) (b := many) (by omega)
  have h4 := Int.emod_lt_of_pos (n % 18446744073709551616) hm.1
  have hu : IntKind.u64.wrap n = n % 18446744073709551616 := IntKind.wrap_u64 n
  have hu2 : IntKind.u64.wrap many = many := by rw [IntKind.wrap_u64]; omega
  generalize n % 18446744073709551616 = y at *
  have ht : y.tmod many = y % many := Int.tmod_eq_emod_of_nonneg h1
  generalize y % many = z at *
  go_enter Tryd.func24, Tryd.ntmps24
  go_wp2_with fail
  go_ret
  exact ⟨by rw [HN.out]; rfl, rfl⟩
theorem ten_cut (k : Nat) (hk : k < 10) : (⟨#[48, 49, 50, 51, 52, 53, 54, 55, 56, 57]⟩ : ByteArray).extract k (k + 1) = txt [48 + k] := by
  rcases k with _ | _ | _ | _ | _ | _ | _ | _ | _ | _ | k <;> first | rfl | omega
theorem ten_run (k : Nat) (hk : k < 10) (W : World) : (Instr.slice 9 (.string ⟨#[48, 49, 50, 51, 52, 53, 54, 55, 56, 57]⟩) (some (.int .i64 (k : Int))) (some (.int .i64 ((k : Int) + 1))) none).run Tryd.prog W = .ok (.string (txt [48 + k])) W := by
  rw [run_slice_string (P := Tryd.prog) W 9 ⟨#[48, 49, 50, 51, 52, 53, 54, 55, 56, 57]⟩ .i64 .i64 (k : Int) ((k : Int) + 1) Tryd.underlying9 (by omega) (by omega) (by show (k : Int) + 1 ≤ 10; omega), Int.toNat_natCast, show ((k : Int) + 1).toNat = k + 1 by omega, ten_cut k hk]
set_option maxHeartbeats 800000 in
theorem rdg_any (n : Int) (h0 : 0 ≤ n) (hn : n ≤ 9223372036854775807) (w : World) : Calls Tryd.prog 29 #[.int .i64 n] w fun e w' => e = .returned (.string (txt (Spc.dg n.natAbs))) ∧ w' = w := by
  go_enter Tryd.func29, Tryd.ntmps29
  go_wp2_with fail
  have HL : Hid ((Spc.dg n.natAbs).length ≤ 19) := Spc.dg_len n.natAbs 18 (by omega)
  go_loopw [0, 3] (fun i s wr => ∃ (m : Nat) (q : List Nat), i = .int .i64 (m : Int) ∧ (m : Int) ≤ 9223372036854775807 ∧ s = .string (txt q) ∧ Spc.dg n.natAbs = Spc.dg m ++ q ∧ wr = w) (fun i _ _ => (intOf i).toNat)
  case atStart => exact ⟨n.natAbs, [], by rw [show ((n.natAbs : Nat) : Int) = n by omega], by omega, rfl, by simp, rfl⟩
  case round =>
    obtain ⟨m, q, rfl, hm, rfl, hd, rfl⟩ := hrel
    have HD := Lib.hid hd
    have hq : q.length ≤ 19 := by have := HL.out; rw [hd, List.length_append] at this; omega
    obtain ⟨k, hk⟩ : ∃ k, k = m % 10 := ⟨_, rfl⟩
    obtain ⟨d, hdd⟩ : ∃ d, d = m / 10 := ⟨_, rfl⟩
    have hk10 : k < 10 := by omega
    have hx := ten_run k hk10
    have hz := txt_size q
    have hz1 := txt_size [48 + k]
    have hap := txt_append [48 + k] q
    have hmod : (m : Int) % 10 = (k : Int) := by omega
    have hdiv : (m : Int) / 10 = (d : Int) := by omega
    have HK := Lib.hid hk
    have HDD := Lib.hid hdd
    clear hd hk hdd
    by_cases h10 : m < 10
    · have hz0 : d = 0 := by have := HDD.out; omega
      subst hz0
      go_wp2_with fail
      go_ret
      refine ⟨?_, rfl⟩
      have e : Spc.dg n.natAbs = (48 + k) :: q := by rw [HD.out, Spc.dg_one h10, HK.out, Nat.mod_eq_of_lt h10]; rfl
      rw [e]; rfl
    · go_wp2_with fail
      exact ⟨⟨d, (48 + k) :: q, rfl, by have := HDD.out; omega, rfl, by rw [HD.out, Spc.dg_more h10, HK.out, HDD.out]; simp, trivial⟩, by simp [intOf]; have := HDD.out; omega⟩
theorem min_text : (⟨#[45, 57, 50, 50, 51, 51, 55, 50, 48, 51, 54, 56, 53, 52, 55, 55, 53, 56, 48, 56]⟩ : ByteArray) = txt (Spc.digs (-9223372036854775808)) := by
  have : Spc.digs (-9223372036854775808) = [45, 57, 50, 50, 51, 51, 55, 50, 48, 51, 54, 56, 53, 52, 55, 55, 53, 56, 48, 56] := by
    unfold Spc.digs
    rw [if_pos (by omega), show (-9223372036854775808 : Int).natAbs = 9223372036854775808 from rfl]
    iterate 18 rw [Spc.dg_more (by omega)]
    rw [Spc.dg_one (by omega)]
    rfl
  rw [this]; rfl
theorem rdigs_any (n : Int) (hn : Spc.i64 n) (w : World) : Calls Tryd.prog 29 #[.int .i64 n] w fun e w' => e = .returned (.string (txt (Spc.digs n))) ∧ w' = w := by
  unfold Spc.i64 at hn
  by_cases h0 : 0 ≤ n
  · have e : Spc.digs n = Spc.dg n.natAbs := by unfold Spc.digs; rw [if_neg (by omega)]
    rw [e]
    exact rdg_any n h0 hn.2 w
  · by_cases hm : n = -9223372036854775808
    · subst hm
      rw [← min_text]
      go_enter Tryd.func29, Tryd.ntmps29
      go_wp2_with fail
      go_ret
      exact ⟨rfl, rfl⟩
    · obtain ⟨q, hq⟩ : ∃ q, q = Spc.dg (-n).natAbs := ⟨_, rfl⟩
      have e : Spc.digs n = [45] ++ q := by rw [hq]; unfold Spc.digs; rw [if_pos (by omega), Int.natAbs_neg]; rfl
      have C := Lib.hid (rdg_any (-n) (by omega) (by omega) w)
      have hql : q.length ≤ 1000 := by rw [hq]; have := Spc.dg_len (-n).natAbs 18 (by omega); omega
      rw [← hq] at C
      have hz := txt_size q
      have HE := Lib.hid e
      clear e hq
      go_enter Tryd.func29, Tryd.ntmps29
      go_wp2_with fail
      refine C.out.mono ?_
      rintro e w1 ⟨rfl, rfl⟩
      go_wp2_with fail
      go_ret
      exact ⟨by rw [HE.out, ← txt_append]; rfl, rfl⟩
/-! A spec as a value. -/
def Spc.cells (s : Spc.Sp) : Array Value := #[.int .i64 s.v, .int .i64 s.d, .int .i64 s.u, .int .i64 s.n, .int .i64 s.g, .int .i64 s.a, .int .i64 s.b, .int .i64 s.c, .int .i64 s.e, .int .i64 s.w, .int .i64 s.x, .int .i64 s.k]
def Spc.val (s : Spc.Sp) : Value := .agg (Spc.cells s)
/-- What a block that holds a spec reads as. -/
structure SpAt (w : World) (g : Nat) (s : Spc.Sp) : Prop where
  f0 : w.cell? ⟨g, 0, none⟩ = some (.int .i64 s.v)
  f1 : w.cell? ⟨g, 1, none⟩ = some (.int .i64 s.d)
  f2 : w.cell? ⟨g, 2, none⟩ = some (.int .i64 s.u)
  f3 : w.cell? ⟨g, 3, none⟩ = some (.int .i64 s.n)
  f4 : w.cell? ⟨g, 4, none⟩ = some (.int .i64 s.g)
  f5 : w.cell? ⟨g, 5, none⟩ = some (.int .i64 s.a)
  f6 : w.cell? ⟨g, 6, none⟩ = some (.int .i64 s.b)
  f7 : w.cell? ⟨g, 7, none⟩ = some (.int .i64 s.c)
  f8 : w.cell? ⟨g, 8, none⟩ = some (.int .i64 s.e)
  f9 : w.cell? ⟨g, 9, none⟩ = some (.int .i64 s.w)
  f10 : w.cell? ⟨g, 10, none⟩ = some (.int .i64 s.x)
  f11 : w.cell? ⟨g, 11, none⟩ = some (.int .i64 s.k)
theorem spAt_of {w : World} {g : Nat} {s : Spc.Sp} {t : TypeId} {fr : Nat × Nat} (h : w.heap[g]? = some (.cells (Spc.cells s) t fr)) : SpAt w g s := by
  constructor <;> (rw [cell_of_row w g _ _ _ _ h]; rfl)
theorem SpAt.below {w w' : World} {g : Nat} {s : Spc.Sp} (h : SpAt w g s) (hg : g < w.heap.size) (hb : Below w.heap.size w w') : SpAt w' g s :=
  ⟨(hb.cell (p := ⟨g, 0, none⟩) hg).trans h.f0, (hb.cell (p := ⟨g, 1, none⟩) hg).trans h.f1, (hb.cell (p := ⟨g, 2, none⟩) hg).trans h.f2, (hb.cell (p := ⟨g, 3, none⟩) hg).trans h.f3, (hb.cell (p := ⟨g, 4, none⟩) hg).trans h.f4, (hb.cell (p := ⟨g, 5, none⟩) hg).trans h.f5, (hb.cell (p := ⟨g, 6, none⟩) hg).trans h.f6, (hb.cell (p := ⟨g, 7, none⟩) hg).trans h.f7, (hb.cell (p := ⟨g, 8, none⟩) hg).trans h.f8, (hb.cell (p := ⟨g, 9, none⟩) hg).trans h.f9, (hb.cell (p := ⟨g, 10, none⟩) hg).trans h.f10, (hb.cell (p := ⟨g, 11, none⟩) hg).trans h.f11⟩
/-- Twelve numbers in a row of the call's own. -/
theorem rfields_any (s : Spc.Sp) (w : World) : Calls Tryd.prog 28 #[Spc.val s] w fun e w' => ∃ A c, e = .returned (.slice A 12 c) ∧ OwnI w' w.heap.size (.slice A 12 c) (Spc.flds s) ∧ Below w.heap.size w w' := by
  unfold Spc.val Spc.cells
  go_enter Tryd.func28, Tryd.ntmps28
  go_wp2_with fail
  go_ret
  have hn := heap_alloc_new (w.alloc (.cells (Spc.cells s) 25)) (.cells (vali (Spc.flds s)).toArray 3)
  rw [show (w.alloc (.cells (Spc.cells s) 25)).heap.size = w.heap.size + 1 from by simp] at hn
  exact ⟨_, 12, rfl, ⟨rfl, .inr ⟨w.heap.size + 1, 12, (vali (Spc.flds s)).toArray, rfl, Nat.le_succ _, hn, Nat.le_refl _, (by unfold maxLen; omega : 12 ≤ maxLen), rfl, rfl⟩⟩, ((Below.refl _ w).alloc (Nat.le_refl _) _).alloc (by simp) _⟩
end Go.Proofs.YtijloajkiannlaaDoor
