/-
  The document's package of layer 7: words between blanks.
-/
import Derived.Test.YtijloajkiannlaaDoorSpRef5
import Derived.Test.YtijloajkiannlaaDoorTexts
namespace Go.Proofs.YtijloajkiannlaaDoor
open Go.RowKit

theorem byte_cut (l : List Nat) (j : Nat) (hj : j < l.length) (W : World) : (Instr.slice 9 (.string (txt l)) (some (.int .i64 (j : Int))) (some (.int .i64 ((j : Int) + 1))) none).run Tryd.prog W = .ok (.string (txt [l.getD j 0])) W := by
  have hz := txt_size l
  rw [run_slice_string (P := Tryd.prog) W 9 (txt l) .i64 .i64 (j : Int) ((j : Int) + 1) Tryd.underlying9 (by omega) (by omega) (by rw [hz]; omega), Int.toNat_natCast, show ((j : Int) + 1).toNat = j + 1 by omega]
  congr 2
  apply txt_ext
  rw [ByteArray.data_extract, Array.toList_extract, txt_list, txt_list]
  simp only [List.extract]
  rw [show j + 1 - j = 1 by omega, ← List.map_drop, ← List.map_take]
  congr 1
  rw [List.drop_eq_getElem_cons hj, getD_at hj]; rfl
theorem words_long (l : List Nat) : ∀ u ∈ Spc.words l, u.length ≤ l.length := by
  obtain ⟨m, hm⟩ : ∃ m, m = l.length := ⟨_, rfl⟩
  induction m generalizing l with
  | zero =>
    have : l = [] := List.eq_nil_of_length_eq_zero hm.symm
    subst this; simp [Spc.words]
  | succ m ih =>
    have hne : l ≠ [] := fun e => by rw [e] at hm; simp at hm
    have e : l = l.dropLast ++ [l.getLast hne] := (List.dropLast_concat_getLast hne).symm
    have hl : l.dropLast.length = m := by rw [List.length_dropLast]; omega
    have h1 := ih l.dropLast hl.symm
    rw [e, Spc.words_snoc, List.length_append, List.length_singleton, hl]
    rw [hl] at h1
    intro u hu
    unfold Spc.wstep at hu
    split at hu
    · rcases List.mem_append.1 hu with hu | hu
      · have := h1 u hu; omega
      · simp at hu; subst hu; simp
    · rcases List.mem_append.1 hu with hu | hu
      · have := h1 u (List.dropLast_subset _ hu); omega
      · simp at hu
        subst hu
        have hw := Spc.words_ne l.dropLast
        rw [List.getLast?_eq_some_getLast hw, Option.getD_some, List.length_append, List.length_singleton]
        have := h1 _ (List.getLast_mem hw)
        omega
def WPost (ws : List (List Nat)) (w : World) (e : Ending) (w' : World) : Prop := ∃ g c, e = .returned (.slice (some ⟨g, 0, none⟩) ws.length c) ∧ OwnT w' w.heap.size (.slice (some ⟨g, 0, none⟩) ws.length c) ws ∧ Below w.heap.size w w'
theorem words_step_len (l : List Nat) : 0 < (Spc.words l).length := List.length_pos_iff.2 (Spc.words_ne l)
set_option maxHeartbeats 1600000 in
theorem rwords_any (l : List Nat) (hb : ∀ x ∈ l, x < 256) (hl : l.length ≤ 1000) (w : World) : Calls Tryd.prog 20 #[.string (txt l)] w (WPost (Spc.words l) w) := by
  have HB := Lib.hid hb
  have hz := txt_size l
  have HX : Hid (∀ j, j < l.length → ∀ W, (Instr.index 9 (.string (txt l)) (.int .i64 (j : Int))).run Tryd.prog W = .ok (.int .u8 (l.getD j 0 : Nat)) W) := fun j hj W => byte_run l hb j hj W
  have B1 := Lib.hid ((Below.refl w.heap.size w).alloc (Nat.le_refl _) (.cells #[.string ⟨#[]⟩] 9))
  have O1 : Hid (OwnT (w.alloc (.cells #[.string ⟨#[]⟩] 9)) w.heap.size (.slice (some ⟨w.heap.size, 0, none⟩) 1 1) [[]]) :=
    ⟨rfl, .inr ⟨w.heap.size, 1, #[.string ⟨#[]⟩], rfl, Nat.le_refl _, heap_alloc_new w _, Nat.le_refl _, (by unfold maxLen; omega : 1 ≤ maxLen), rfl, rfl⟩⟩
  clear hb
  go_enter Tryd.func20, Tryd.ntmps20
  go_wp2_with fail
  generalize w.alloc (.cells #[.string ⟨#[]⟩] 9) = w1 at *
  go_loopw [3, 4] (fun v i wr => ∃ (j m g c : Nat) (ws : List (List Nat)), j ≤ l.length ∧ i = .int .i64 (j : Nat) ∧ v = .slice (some ⟨g, 0, none⟩) (m + 1) c ∧ ws.length = m + 1 ∧ ws = Spc.words (l.take j) ∧ OwnT wr w.heap.size (.slice (some ⟨g, 0, none⟩) (m + 1) c) ws ∧ Below w.heap.size w wr) (fun _ i _ => l.length - (intOf i).toNat)
  case atStart => exact ⟨0, 0, w.heap.size, 1, [[]], by omega, rfl, rfl, rfl, by rw [List.take_zero]; rfl, O1.out, B1.out⟩
  case round =>
    obtain ⟨j, m, g, c, ws, hj, rfl, rfl, hn, hws, ho, hbr⟩ := hrel
    have O := Lib.hid ho
    have B := Lib.hid hbr
    obtain ⟨g', c', ev, hgB, hglt, hnc, hcm, hfz, hcell⟩ := ho.form (by omega)
    rw [hn] at ev hnc hfz hcell
    injection ev with e1 e2 e3
    injection e1 with e1
    injection e1 with e1
    subst e1 e3
    clear ho hbr e2
    have hwl : m ≤ 1000 := by have := Spc.words_count (l.take j); rw [← hws, hn, List.length_take] at this; omega
    have LU : Hid ((ws.getD m []).length ≤ 1000) := by
      have h1 : m < ws.length := by omega
      have := words_long (l.take j) (ws.getD m []) (by rw [← hws, getD_at h1]; exact List.getElem_mem h1)
      rw [List.length_take] at this
      show _ ≤ _; omega
    have HN := Lib.hid hn
    have HWS := Lib.hid hws
    clear hn hws
    by_cases hlt : j < l.length
    · have hx := HX.out j hlt
      have hcut := byte_cut l j hlt
      have hch : l.getD j 0 < 256 := by rw [getD_at hlt]; exact HB.out _ (List.getElem_mem hlt)
      have WS : Hid (Spc.words (l.take (j + 1)) = Spc.wstep ws (l.getD j 0)) := by show _ = _; rw [take_snoc l j hlt, Spc.words_snoc, HWS.out]
      generalize l.getD j 0 = ch at *
      by_cases h32 : ch = 32
      · subst h32
        have E : Hid (Spc.words (l.take (j + 1)) = ws ++ [[]]) := by show _ = _; rw [WS.out]; unfold Spc.wstep; rw [if_pos rfl]
        have LW : Hid (ws.length ≤ 3000000) := by show _ ≤ _; rw [HN.out]; omega
        go_wp2_with (at_builtin; refine wpList_append_text rfl (.tmp 16) (.tmp 17) rfl w.heap.size _ ws rfl O.out _ [] rfl rfl LW.out B.out.size ?_; intro v3 w3 ho3 hg3; have O3 := Lib.hid ho3; have G3 := Lib.hid hg3; clear ho3 hg3)
        have hown : ∀ k, (Value.slice (some ⟨g, 0, none⟩) (m + 1) c).ownBlock = some k → w.heap.size ≤ k := fun k e => by
          have : g = k := by simpa [Value.ownBlock] using e
          omega
        have B3 := Lib.hid (B.out.grown G3.out B.out.size hown)
        obtain ⟨g3, c3, rfl, _⟩ := O3.out.form (by simp)
        have e3 : (ws ++ [[]]).length = m + 1 + 1 := by rw [List.length_append, HN.out]; rfl
        rw [e3] at O3
        exact ⟨⟨j + 1, m + 1, g3, c3, ws ++ [[]], by omega, by go_num, by rw [List.length_append, HN.out]; rfl, e3, E.out.symm, O3.out, B3.out⟩, by simp [intOf]; omega⟩
      · have hne : ((ch : Int) == 32) = false := by rw [beq_eq_false_iff_ne]; omega
        have hlast := hcell m (by omega)
        have hfm : wr.frozen? ⟨g, m, none⟩ = false := hfz
        obtain ⟨u, hu⟩ : ∃ u, u = ws.getD m [] := ⟨_, rfl⟩
        rw [← hu] at hlast LU
        have hzu := txt_size u
        have hlu := LU.out
        have hzc := txt_size [ch]
        have hap := txt_append u [ch]
        have E : Hid (Spc.words (l.take (j + 1)) = ws.set m (u ++ [ch])) := by
          show _ = _
          rw [WS.out]
          unfold Spc.wstep
          rw [if_neg h32]
          have h1 : m < ws.length := by rw [HN.out]; omega
          have hne' : ws ≠ [] := fun e => by rw [e] at h1; simp at h1
          have hg : ws.getLastD [] = u := by
            rw [hu, getD_at h1, List.getLastD_eq_getLast?, List.getLast?_eq_some_getLast hne', Option.getD_some, List.getLast_eq_getElem]
            congr 1
            rw [HN.out]; omega
          rw [hg]
          conv => rhs; rw [← List.dropLast_concat_getLast hne']
          rw [List.set_append_right _ _ (by rw [List.length_dropLast, HN.out]; omega), List.length_dropLast, HN.out, show m - (m + 1 - 1) = 0 by omega]
          rfl
        have O3 := Lib.hid (O.out.put HN.out.symm m (u ++ [ch]))
        have B3 := Lib.hid (B.out.setCell (p := ⟨g, m, none⟩) hgB (.string (txt (u ++ [ch]))))
        clear hcell hu hfz
        go_wp2_with fail
        go_region
        go_wp2_with fail
        exact ⟨⟨j + 1, m, g, c, ws.set m (u ++ [ch]), by omega, by go_num, rfl, by rw [List.length_set]; exact HN.out, E.out.symm, O3.out.below (Below.refl _ _).drew, B3.out.drew⟩, by simp [intOf]; omega⟩
    · obtain rfl : j = l.length := by omega
      have E : Hid (Spc.words l = ws) := by show _ = _; rw [HWS.out, List.take_length]
      go_wp2_with fail
      go_ret
      exact ⟨g, c, by rw [E.out, HN.out]; rfl, by rw [E.out, HN.out]; exact O.out, B.out⟩
end Go.Proofs.YtijloajkiannlaaDoor
