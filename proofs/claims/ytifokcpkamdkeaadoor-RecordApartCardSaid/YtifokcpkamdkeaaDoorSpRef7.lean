/-
  The document's package of layer 7: a spec's text, its steps and its budget.
-/
import Derived.Test.YtifokcpkamdkeaaDoorSpRef3
import Derived.Test.YtifokcpkamdkeaaDoorSpRefD
import Derived.Lib.MinMax
namespace Go.Proofs.YtifokcpkamdkeaaDoor
open Go.RowKit

theorem join_snoc {l : List (List Nat)} (h : l ≠ []) (v : List Nat) : Spc.join (l ++ [v]) = Spc.join l ++ 32 :: v := by
  rcases l with _ | ⟨u, l⟩
  · exact absurd rfl h
  · show u ++ (l ++ [v]).flatMap _ = _
    rw [List.flatMap_append]
    simp [Spc.join]
def tx (s : Spc.Sp) (j : Nat) : List Nat := Spc.join (((Spc.flds s).map Spc.digs).take j)
theorem tx_one (s : Spc.Sp) : tx s 1 = Spc.digs s.v := by unfold tx Spc.flds Spc.join; simp
theorem tx_next (s : Spc.Sp) (j : Nat) (h1 : 1 ≤ j) (h2 : j < 12) : tx s (j + 1) = tx s j ++ ([32] ++ Spc.digs ((Spc.flds s).getD j 0)) := by
  unfold tx
  have hl : j < ((Spc.flds s).map Spc.digs).length := by rw [List.length_map]; exact h2
  rw [List.take_succ_eq_append_getElem hl, join_snoc (by intro e; have := congrArg List.length e; rw [List.length_take, List.length_nil] at this; omega)]
  rw [List.getElem_map, getD_at (by exact h2)]
  rfl
theorem tx_end (s : Spc.Sp) : tx s 12 = Spc.text s := by unfold tx Spc.text; rw [List.take_of_length_le (by rw [List.length_map]; exact Nat.le_refl _)]
theorem digs_len {n : Int} (h : Spc.i64 n) : (Spc.digs n).length ≤ 20 := by
  unfold Spc.i64 at h
  unfold Spc.digs
  have := Spc.dg_len n.natAbs 18 (by omega)
  split
  · rw [List.length_cons]; omega
  · omega
theorem in_at {s : Spc.Sp} (h : Spc.In s) {j : Nat} (hj : j < 12) : Spc.i64 ((Spc.flds s).getD j 0) := by
  rw [getD_at (by exact hj)]
  exact h _ (List.getElem_mem _)
set_option maxHeartbeats 1600000 in
theorem rtext_any (s : Spc.Sp) (hin : Spc.In s) (w : World) : Calls Tryd.prog 34 #[Spc.val s] w (APos w (.string (txt (Spc.text s)))) := by
  have HI := Lib.hid hin
  have hb := (Below.refl w.heap.size w).alloc (Nat.le_refl _) (.cells (Spc.cells s) 24)
  have A1 := Lib.hid (spAt_of (heap_alloc_new w (.cells (Spc.cells s) 24)))
  have B1 := Lib.hid hb
  have HF : Hid (∀ W, Calls Tryd.prog 24 #[Spc.val s] W fun e w' => ∃ A c, e = .returned (.slice A 12 c) ∧ OwnI w' W.heap.size (.slice A 12 c) (Spc.flds s) ∧ Below W.heap.size W w') := rfields_any s
  have HD : Hid (∀ n W, Spc.i64 n → Calls Tryd.prog 33 #[.int .i64 n] W fun e w' => e = .returned (.string (txt (Spc.digs n))) ∧ w' = W) := fun n W h => sdigs_any n h W
  obtain ⟨f0, f1, f2, f3, f4, f5, f6, f7, f8, f9, f10, f11⟩ := A1.out
  clear hb hin
  unfold Spc.val at *
  unfold Spc.cells at *
  go_enter Tryd.func34, Tryd.ntmps34
  go_wp2_with fail
  generalize w.alloc (.cells #[.int .i64 s.v, .int .i64 s.d, .int .i64 s.u, .int .i64 s.n, .int .i64 s.g, .int .i64 s.a, .int .i64 s.b, .int .i64 s.c, .int .i64 s.e, .int .i64 s.w, .int .i64 s.x, .int .i64 s.k] 24) = w1 at *
  refine (HF.out w1).mono ?_
  rintro e w2 ⟨A2, c2, rfl, ho2, hb2⟩
  obtain ⟨A2', c2', ev, hsl⟩ := ho2.sl
  injection ev with e1 e2 e3
  subst e1 e3
  obtain ⟨b, o, rfl, hbl, hc⟩ := hsl.rd (by rw [Spc.flds_length]; omega)
  have hcap : 12 ≤ c2 := by have := hsl.cap; rw [Spc.flds_length] at this; exact this
  have B2 := Lib.hid (B1.out.trans (hb2.mono B1.out.size))
  have HC : Hid (∀ W, Below w2.heap.size w2 W → ∀ j, j < 12 → W.cell? ⟨b, o + j, none⟩ = some (.int .i64 ((Spc.flds s).getD j 0))) := fun W hW j hj => (hW.cell (p := ⟨b, o + j, none⟩) hbl).trans (hc j hj)
  have c0 : w2.cell? ⟨b, o, none⟩ = some (.int .i64 s.v) := HC.out w2 (Below.refl _ _) 0 (by omega)
  clear f0 f1 f2 f3 f4 f5 f6 f7 f8 f9 f10 f11 A1 hsl hc ho2 hb2 e2 HF
  go_wp2_with fail
  refine (HD.out s.v w2 (in_at HI.out (j := 0) (by omega))).mono ?_
  rintro e w3 ⟨rfl, rfl⟩
  have BR := Lib.hid (Below.refl w3.heap.size w3)
  go_wp2_with fail
  go_loopw [4, 5] (fun t i wr => ∃ (j : Nat) (q : List Nat), 1 ≤ j ∧ j ≤ 12 ∧ i = .int .i64 (j : Nat) ∧ t = .string (txt q) ∧ q = tx s j ∧ q.length ≤ 21 * j ∧ Below w3.heap.size w3 wr) (fun _ i _ => 12 - (intOf i).toNat)
  case atStart => exact ⟨1, _, by omega, by omega, rfl, rfl, (tx_one s).symm, by have := digs_len (in_at HI.out (j := 0) (by omega)); exact Nat.le_trans this (by omega), BR.out⟩
  case round =>
    obtain ⟨j, q, h1, hj, rfl, rfl, hq, hql, hbr⟩ := hrel
    have Q := Lib.hid hq
    have B := Lib.hid hbr
    clear hq hbr
    by_cases hlt : j < 12
    · have hcj := HC.out wr B.out j hlt
      have HN := Lib.hid (tx_next s j h1 hlt)
      have hi := in_at HI.out hlt
      have hdl := digs_len hi
      have C := Lib.hid (fun W => HD.out ((Spc.flds s).getD j 0) W hi)
      obtain ⟨x, hx⟩ : ∃ x, x = (Spc.flds s).getD j 0 := ⟨_, rfl⟩
      rw [← hx] at hcj hdl C HN
      clear hx hi c0
      obtain ⟨u, hu⟩ : ∃ u, u = Spc.digs x := ⟨_, rfl⟩
      rw [← hu] at hdl C HN
      have i1 : (0 : Int) ≤ (j : Int) := by omega
      have i2 : (j : Int) < 12 := by omega
      have hzq := txt_size q
      have hzu := txt_size u
      have hap1 : (⟨#[32]⟩ : ByteArray) ++ txt u = txt ([32] ++ u) := by rw [← txt_append]; rfl
      have hz2 := txt_size ([32] ++ u)
      have hz3 : ([32] ++ u).length = u.length + 1 := by rw [List.length_append]; simp; omega
      have hap2 := txt_append q ([32] ++ u)
      obtain ⟨v, hv⟩ : ∃ v, v = [32] ++ u := ⟨_, rfl⟩
      rw [← hv] at hap1 hz2 hz3 hap2 HN
      clear hu hv
      go_wp2_with fail
      refine (C.out wr).mono ?_
      rintro e w4 ⟨rfl, rfl⟩
      go_wp2_with fail
      exact ⟨⟨j + 1, q ++ v, by omega, by omega, by go_num, rfl, by rw [HN.out, Q.out], by rw [List.length_append]; omega, B.out⟩, by simp [intOf]; omega⟩
    · obtain rfl : j = 12 := by omega
      have E : Hid (q = Spc.text s) := by show _ = _; rw [Q.out, tx_end]
      go_wp2_with fail
      go_ret
      exact ⟨by rw [← E.out]; rfl, B2.out.trans (B.out.mono B2.out.size)⟩
theorem cutc_in (n : Int) : 0 ≤ Spc.cutc n ∧ Spc.cutc n ≤ 1048576 := by unfold Spc.cutc; omega
theorem steps_at {s : Spc.Sp} {j : Nat} (hj : j ≤ 4) (h : ∀ m, m < j → Spc.at_ s m ≠ 0) (he : j = 4 ∨ Spc.at_ s j = 0) : Spc.steps s = [s.a, s.b, s.c, s.e].take j := by
  unfold Spc.steps
  have g0 : 0 < j → s.a ≠ 0 := fun x => h 0 x
  have g1 : 1 < j → s.b ≠ 0 := fun x => h 1 x
  have g2 : 2 < j → s.c ≠ 0 := fun x => h 2 x
  have g3 : 3 < j → s.e ≠ 0 := fun x => h 3 x
  rcases j with _ | _ | _ | _ | _ | j
  · have e : s.a = 0 := he.resolve_left (by omega)
    simp [e]
  · have e : s.b = 0 := he.resolve_left (by omega)
    simp [g0, e]
  · have e : s.c = 0 := he.resolve_left (by omega)
    simp [g0, g1, e]
  · have e : s.e = 0 := he.resolve_left (by omega)
    simp [g0, g1, g2, e]
  · simp [g0, g1, g2, g3]
  · omega
end Go.Proofs.YtifokcpkamdkeaaDoor
