/-
  A message taken out of a row of the call's own (slices.Delete). No condition.
-/
import Derived.Test.YtmhhjipdbfepiaaNd1
import Derived.Deep.DeepAppendRoom
import Derived.Lib.SliceRun
import Derived.Laws.IdiomCopy
namespace Go.Proofs.Ytmhhjipdbfepiaa
open Go.RowKit Go.Deep
set_option maxRecDepth 100000
set_option linter.unusedSimpArgs false
set_option linter.unusedVariables false

theorem heap_setCells (b : Nat) (t : TypeId) : ∀ (vs : List Value) (o : Nat) (w : World) (cs : Array Value), w.heap[b]? = some (.cells cs t (0, 0)) → ∃ cs', (w.setCells b o vs).heap[b]? = some (.cells cs' t (0, 0)) ∧ cs'.size = cs.size ∧ ∀ i, i < o → cs'[i]? = cs[i]?
  | [], _, _, cs, h => ⟨cs, h, rfl, fun _ _ => rfl⟩
  | v :: vs, o, w, cs, h => by
    obtain ⟨cs', h1, h2, h3⟩ := heap_setCells b t vs (o + 1) (w.setCell ⟨b, o, none⟩ v) (cs.setIfInBounds o v) (heap_setCell_same w b o _ _ v h)
    refine ⟨cs', h1, by rw [h2, Array.size_setIfInBounds], fun i hi => ?_⟩
    rw [h3 i (by omega), Array.getElem?_setIfInBounds_ne (by omega)]
theorem grown_setCells (b : Nat) : ∀ (vs : List Value) (o : Nat) (w : World), w.grownBy (w.setCells b o vs) (some b)
  | [], _, w => ⟨rfl, rfl, rfl, Nat.le_refl _, fun _ _ _ => rfl⟩
  | v :: vs, o, w => grown_trans (grown_set w b o v) (grown_setCells b vs (o + 1) (w.setCell ⟨b, o, none⟩ v))
theorem msg_zero : ∀ w, (zeroValue 32).run Try.prog w = .ok (Nt.val Nt.zero) w := (zero_of_info (n := 6) (by kernel_rfl)).1
def zcells (n : Nat) : List Value := (Builtin.zeroCells (Value.agg (Nt.cs Nt.zero)).cells n).toList
theorem zcells_len (n : Nat) : (zcells n).length = n * 6 := by
  unfold zcells Builtin.zeroCells
  simp [Value.cells]
theorem zcells_one (n : Nat) : ∀ v ∈ zcells n, v.oneCell' = true := by
  intro v hv
  unfold zcells Builtin.zeroCells at hv
  simp only [Array.toList_map, List.mem_map] at hv
  obtain ⟨i, _, rfl⟩ := hv
  have h : i % 6 < 6 := Nat.mod_lt _ (by omega)
  show ((Nt.cs Nt.zero)[i % 6]!).oneCell' = true
  generalize i % 6 = j at h
  rcases j with _ | _ | _ | _ | _ | _ | j
  all_goals first | rfl | omega
/-- clear of a row's end. -/
theorem clear_msgs (w : World) (ty : TypeId) (b o n c : Nat) (hn : 0 < n) (hc : ∀ j, j < n * 6 → (w.cell? ⟨b, o + j, none⟩).isSome = true) (hf : ∀ j, w.frozen? ⟨b, j, none⟩ = false) :
    (Builtin.clear_ #[26] ty #[.slice (some ⟨b, o, none⟩) n c]).run Try.prog w = .ok (.tuple #[]) (w.setCells b o (zcells n)) := by
  obtain ⟨n, rfl⟩ : ∃ k, n = k + 1 := ⟨n - 1, by omega⟩
  have hst := run_storeCells_cells (P := Try.prog) b o (zcells (n + 1)) 0 w (by rw [zcells_len]; simpa using hc) (by rw [zcells_len]; intro j _; simpa using hf _) (fun v hv => zcells_one (n + 1) v hv)
  simp only [Nat.add_zero] at hst
  have hz : (storeCells ⟨b, o, none⟩ (Builtin.zeroCells (Value.agg #[.int .i64 0, .int .i64 0, .int .i64 0, .int .i64 0, .int .i64 0, .int .i64 0]).cells (n + 1)).toList).run Try.prog w = .ok () (w.setCells b o (zcells (n + 1))) := hst
  simp [Builtin.clear_, run_underlying Try.underlying26, msg_zero, Nt.zero]
  rw [hz]
  rfl
/-- What lies ahead of a place stays where what lies behind it is cleared. -/
theorem own_cut {w : World} {B g n c : Nat} {l : List Nt.M} (h : OwF Nt.mC 6 32 w B (.slice (some ⟨g, 0, none⟩) n c) l) (k : Nat) (hk : k ≤ n) (o : Nat) (ho : k * 6 ≤ o) (vs : List Value) : OwF Nt.mC 6 32 (w.setCells g o vs) B (.slice (some ⟨g, 0, none⟩) k c) (l.take k) := by
  have hn := h.len.1
  rcases h.2 with ⟨h1, _⟩ | ⟨g', cap, cur, h1, hg, hh, h2, h3, h4, h5⟩
  · cases h1
  · injection h1 with e1 e2 e3
    injection e1 with e1
    injection e1 with e1 _
    subst e1 e3
    obtain ⟨cur', m1, m2, m3⟩ := heap_setCells g 32 vs o w cur hh
    have hl : (l.take k).length = k := by rw [List.length_take]; omega
    show World.ownsRow _ _ _ _ _ _ _
    rw [hl]
    refine ⟨by rw [flat_len Nt.mC_len, hl], .inr ⟨g, c, cur', rfl, hg, m1, by omega, h3, by rw [m2, h4], ?_⟩⟩
    rw [flat_take Nt.mC_len, ← h5, List.take_take, Nat.min_eq_left (Nat.mul_le_mul_right 6 (by omega))]
    refine List.ext_getElem? fun i => ?_
    rw [List.getElem?_take, List.getElem?_take]
    split
    · have := m3 i (by omega)
      simpa using this
    · rfl
theorem mElem : ∀ W : World, (sizeOf (Try.prog.elem 26)).run Try.prog W = .ok 6 W := fun _ => by kernel_rfl
theorem mcut_run (A : Option Addr) (n c k : Nat) (hk : k ≤ n) (W : World) : (Instr.slice 26 (.slice A n c) (some (.int .i64 (k : Int))) none none).run Try.prog W = .ok (.slice (if c = k then A else A.map fun x => x.add (k * 6)) (n - k) (c - k)) W := by
  rw [run_slice_l _ 26 A n c (by kernel_rfl) IntKind.i64 (k : Int) (by omega) (by omega), mElem]
  simp [Result.andThen, sliced]
theorem mcut_hi (g o n c k : Nat) (hk : k ≤ c) (W : World) : (Instr.slice 26 (.slice (some ⟨g, o, none⟩) n c) none (some (.int .i64 (k : Int))) none).run Try.prog W = .ok (.slice (some ⟨g, o, none⟩) k c) W := by
  rw [run_slice_h _ 26 (some ⟨g, o, none⟩) n c (by kernel_rfl) IntKind.i64 (k : Int) (by omega) (by omega), mElem]
  simp [Result.andThen, sliced, Addr.add_mid]
theorem mcut_two (A : Option Addr) (n c k h : Nat) (hk : k ≤ h) (hh : h ≤ c) (W : World) : (Instr.slice 26 (.slice A n c) (some (.int .i64 (k : Int))) (some (.int .i64 (h : Int))) none).run Try.prog W = .ok (.slice (if c = k then A else A.map fun x => x.add (k * 6)) (h - k) (c - k)) W := by
  rw [run_slice_lh _ 26 A n c (by kernel_rfl) IntKind.i64 IntKind.i64 (k : Int) (h : Int) (by omega) (by omega) (by omega), mElem]
  simp [Result.andThen, sliced]
theorem mcut_three (A : Option Addr) (n c k h m : Nat) (hk : k ≤ h) (hh : h ≤ m) (hm : m ≤ c) : ∃ v, ∀ W : World, (Instr.slice 26 (.slice A n c) (some (.int .i64 (k : Int))) (some (.int .i64 (h : Int))) (some (.int .i64 (m : Int)))).run Try.prog W = .ok v W := by
  refine ⟨.slice (if m = k then A else A.map fun x => x.add (k * 6)) (h - k) (m - k), fun W => ?_⟩
  rw [run_slice_lhm _ 26 A n c (by kernel_rfl) IntKind.i64 IntKind.i64 IntKind.i64 (k : Int) (h : Int) (m : Int) (by omega) (by omega) (by omega) (by omega), mElem]
  simp [Result.andThen, sliced]
theorem own_take {w : World} {B g n c : Nat} {l : List Nt.M} (h : OwF Nt.mC 6 32 w B (.slice (some ⟨g, 0, none⟩) n c) l) (k : Nat) (hk : k ≤ n) : OwF Nt.mC 6 32 w B (.slice (some ⟨g, 0, none⟩) k c) (l.take k) :=
  own_cut h k hk (k * 6) (Nat.le_refl _) []
set_option maxHeartbeats 3200000 in
theorem ndel_any (W : World) (B g c n i : Nat) (l : List Nt.M) (hown : OwF Nt.mC 6 32 W B (.slice (some ⟨g, 0, none⟩) n c) l) (hi : i < n) (hn : n ≤ 1000) : Calls Try.prog 37 #[.slice (some ⟨g, 0, none⟩) n c, .int .i64 (i : Int), .int .i64 ((i : Int) + 1)] W (fun e w' => e = .returned (.slice (some ⟨g, 0, none⟩) (n - 1) c) ∧ OwF Nt.mC 6 32 w' B (.slice (some ⟨g, 0, none⟩) (n - 1) c) (Nt.cutL l i) ∧ W.grownBy w' (some g)) := by
  obtain ⟨hl1, hl2, hl3⟩ := hown.len
  obtain ⟨i0, hi0, hz0, hz1, hz2⟩ := info_parts msg_info
  obtain ⟨j, hj⟩ : ∃ j : Nat, j = i + 1 := ⟨_, rfl⟩
  obtain ⟨m, hm⟩ : ∃ m : Nat, m = n - j := ⟨_, rfl⟩
  obtain ⟨N, hN⟩ : ∃ N : Nat, N = n - 1 := ⟨_, rfl⟩
  have hji : ((i : Int) + 1) = (j : Int) := by omega
  rw [hji, ← hN]
  have hsl := hown.sl
  obtain ⟨v3, h3⟩ := mcut_three (some ⟨g, 0, none⟩) n c i j n (by omega) (by omega) hl2
  have hhi := fun W => mcut_hi g 0 n c i (by omega) W
  obtain ⟨ad, c5, hlo, hAD⟩ : ∃ ad c5, (∀ W, (Instr.slice 26 (.slice (some ⟨g, 0, none⟩) n c) (some (.int .i64 (j : Int))) none none).run Try.prog W = .ok (.slice (some ad) m c5) W) ∧ (0 < m → ad = ⟨g, j * 6, none⟩) := by
    by_cases hc : c = j
    · refine ⟨⟨g, 0, none⟩, c - j, fun W => ?_, fun h => by omega⟩
      rw [mcut_run _ _ _ _ (by omega), if_pos hc, hm]
    · refine ⟨(⟨g, 0, none⟩ : Addr).add (j * 6), c - j, fun W => ?_, fun _ => by rw [Addr.add_mid, Nat.zero_add]⟩
      rw [mcut_run _ _ _ _ (by omega), if_neg hc, hm]
      rfl
  have TL : Hid (((l.drop j).flatMap Nt.mC).length = m * 6) := by show _ = _; rw [flat_len Nt.mC_len, List.length_drop]; omega
  have RD : Hid (∀ q u, ((l.drop j).flatMap Nt.mC)[q]? = some u → W.drew.cell? (ad.add q) = some u) := fun q u hu => by
    have hq : q < m * 6 := by rw [← TL.out]; exact (List.getElem?_eq_some_iff.1 hu).1
    obtain ⟨b, o, e, hb, hr⟩ := hsl.rd (by omega)
    injection e with e
    injection e with e1 e2
    subst e1 e2
    rw [hAD (by omega), Addr.add_mid]
    rw [flat_drop Nt.mC_len, List.getElem?_drop] at hu
    have h1 := hr (j * 6 + q) u hu
    rw [Nat.zero_add] at h1
    exact h1
  have ON : Hid (∀ u ∈ (l.drop j).flatMap Nt.mC, u.oneCell' = true) := fun u hu => by
    obtain ⟨r, _, hr⟩ := List.mem_flatMap.1 hu
    exact Nt.mC_one r u hr
  have OE : Hid (W.drew.ownsRow B 32 6 (.slice (some ⟨g, 0, none⟩) i c) i ((l.take i).flatMap Nt.mC)) := by
    have h := own_take hown i (by omega)
    have hl : (l.take i).length = i := by rw [List.length_take]; omega
    unfold OwF at h
    rw [hl] at h
    exact ⟨h.1, h.2⟩
  have HF : Hid (i + m = N ∧ i + m ≤ c ∧ N + 1 = n ∧ N ≤ c ∧ n ≤ c) := by show _ ∧ _; omega
  have LN : Hid ((l.take i).length + (l.drop j).length = i + m) := by show _ = _; rw [List.length_take, List.length_drop]; omega
  have EC : Hid (Nt.cutL l i = l.take i ++ l.drop j) := by show _ = _; rw [hj]; rfl
  have hne : ((i : Int) == (j : Int)) = false := by rw [beq_eq_false_iff_ne]; omega
  have hN0 : ((N : Nat) : Int) ≤ 1000 := by omega
  have hcl := fun W => mcut_two (some ⟨g, 0, none⟩) N c N n (by omega) hl2 W
  rw [show n - N = 1 by omega, if_neg (show ¬ c = N by omega)] at hcl
  have hadd : (some ⟨g, 0, none⟩ : Option Addr).map (fun x => x.add (N * 6)) = some ⟨g, N * 6, none⟩ := by
    rw [Option.map_some, Addr.add_mid, Nat.zero_add]
  rw [hadd] at hcl
  clear hl1 hl3 hsl hown hz0 hz2 hji hAD hi hN hm hadd hj
  go_enter Try.func37, Try.ntmps37
  go_upto_region 5 with fail
  refine wp_region_held_drew (S := fun _ => True) (by kernel_rfl) trivial (fun hS => ?_)
  refine tkYes 0 (v := ?_) rfl (by kernel_rfl) (fun _ _ _ h => h) rfl ?_ hS ?_
  rotate_left
  · intro W hW; go_simp; (try with_reducible rfl)
  simp only [Act.put, List.setIfInBounds_toArray, List.set_cons_zero, List.set_cons_succ]
  refine tkYes 1 (v := ?_) rfl (by kernel_rfl) (fun _ _ _ h => h) rfl ?_ hS ?_
  rotate_left
  · intro W hW; go_simp; (try with_reducible rfl)
  simp only [Act.put, List.setIfInBounds_toArray, List.set_cons_zero, List.set_cons_succ]
  refine tkYes 2 (v := ?_) rfl (by kernel_rfl) (fun _ _ _ h => h) rfl ?_ hS ?_
  rotate_left
  · intro W hW; go_simp; (try with_reducible rfl)
  simp only [Act.put, List.setIfInBounds_toArray, List.set_cons_zero, List.set_cons_succ]
  refine tkYes 3 (v := ?_) rfl (by kernel_rfl) (fun _ _ _ h => h) rfl ?_ hS ?_
  rotate_left
  · intro W hW; go_simp; (try with_reducible rfl)
  simp only [Act.put, List.setIfInBounds_toArray, List.set_cons_zero, List.set_cons_succ]
  refine tkYes 4 (v := ?_) rfl (by kernel_rfl) (fun _ _ _ h => h) rfl ?_ hS ?_
  rotate_left
  · intro W hW; go_simp; (try with_reducible rfl)
  simp only [Act.put, List.setIfInBounds_toArray, List.set_cons_zero, List.set_cons_succ]
  refine tkYes 5 (v := ?_) rfl (by kernel_rfl) (fun _ _ _ h => h) rfl ?_ hS ?_
  rotate_left
  · intro W hW; go_simp; (try with_reducible rfl)
  simp only [Act.put, List.setIfInBounds_toArray, List.set_cons_zero, List.set_cons_succ]
  refine rnOne 6 rfl (by kernel_rfl) rfl (fun K hK => ?_)
  refine wp_append_own_spare _ (.tmp 22) (.tmp 25) 26 rfl B 32 i0 6 Try.underlying26 hi0 hz1 g i c ((l.take i).flatMap Nt.mC) rfl OE.out ad m c5 ((l.drop j).flatMap Nt.mC) rfl TL.out RD.out ON.out HF.out.2.1 ?_
  intro w2 ho2 hg2
  have O2 : Hid (OwF Nt.mC 6 32 w2 B (.slice (some ⟨g, 0, none⟩) N c) (Nt.cutL l i)) := by
    show World.ownsRow _ _ _ _ _ _ _
    rw [EC.out, List.flatMap_append, List.length_append, LN.out, ← HF.out.1]
    exact ho2
  have G2 := Lib.hid (grown_trans (show W.grownBy W.drew (some g) from ⟨rfl, rfl, rfl, Nat.le_refl _, fun _ _ _ => rfl⟩) hg2)
  rw [HF.out.1]
  have hS2 : True := trivial
  clear hS ho2 hg2
  have hS := hS2
  clear hS2
  refine hK.out _ _ hS (fun _ => ?_)
  clear hK K
  try simp only [Act.put, List.setIfInBounds_toArray, List.set_cons_zero, List.set_cons_succ]
  refine tkYes 7 (v := ?_) rfl (by kernel_rfl) (fun _ _ _ h => h) rfl ?_ hS ?_
  rotate_left
  · intro W hW; go_simp; (try with_reducible rfl)
  simp only [Act.put, List.setIfInBounds_toArray, List.set_cons_zero, List.set_cons_succ]
  refine wpAnyH_done (by kernel_rfl) ?_ _
  clear hS
  have hsz : ∃ cur, w2.heap[g]? = some (.cells cur 32 (0, 0)) ∧ cur.size = c * 6 := by
    rcases O2.out.2 with ⟨h, _⟩ | ⟨g', c', cur, h, hbg, hh, h1, h2, h3, h4⟩
    · cases h
    · injection h with e1 e2 e3
      injection e1 with e1
      injection e1 with e1 _
      subst e1 e3
      exact ⟨cur, hh, h3⟩
  obtain ⟨cur, k1, k2⟩ := hsz
  have hclr := fun ty => clear_msgs w2 ty g (N * 6) 1 (c - N) (by omega) (fun q hq => by rw [cell_of_row w2 g _ _ _ _ k1, Array.getElem?_eq_getElem (by have := HF.out; omega)]; rfl) (fun q => frozen_of_row w2 g _ _ _ k1)
  have G3 := Lib.hid (grown_trans G2.out (grown_setCells g (zcells 1) (N * 6) w2))
  have O3 : Hid (OwF Nt.mC 6 32 (w2.setCells g (N * 6) (zcells 1)) B (.slice (some ⟨g, 0, none⟩) N c) (Nt.cutL l i)) := by
    have h := own_cut O2.out N (Nat.le_refl _) (N * 6) (Nat.le_refl _) (zcells 1)
    rw [List.take_of_length_le (by have := O2.out.len.1; omega)] at h
    exact h
  clear O2 G2 k1 k2
  generalize w2.setCells g (N * 6) (zcells 1) = w3 at *
  go_wp2_with fail
  go_ret
  exact ⟨rfl, O3.out, G3.out⟩
end Go.Proofs.Ytmhhjipdbfepiaa
