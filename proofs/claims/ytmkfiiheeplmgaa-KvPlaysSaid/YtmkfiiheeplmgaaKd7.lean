/-
  Package kv: apply, Do; the list of contracts; a store that isn't there. No condition.
-/
import Derived.Test.YtmkfiiheeplmgaaKd5
import Derived.Test.YtmkfiiheeplmgaaKd6
import Derived.Laws.Cover3
namespace Go.Proofs.Ytmkfiiheeplmgaa
open Go.RowKit Go.Deep Go.Maps

/-- The struct and its map while a change's ops are done. -/
structure KvMid (w : World) (q m : Nat) (r : Int) (l : List Kv.En) : Prop where
  row : w.heap[q]? = some (.cells #[.int .i64 r, .map (some m)] 58 (0, 0))
  map : MapIs Try.prog 9 w m l
theorem KvMid.ne {w : World} {q m : Nat} {r : Int} {l : List Kv.En} (h : KvMid w q m r l) : q ≠ m := fun e => by
  obtain ⟨D, ⟨es, clock, hb, _⟩, _⟩ := h.map
  have := h.row
  rw [e, hb] at this
  injection this with this
  cases this
theorem KvMid.cells {w : World} {q m : Nat} {r : Int} {l : List Kv.En} (h : KvMid w q m r l) : w.cell? ⟨q, 0, none⟩ = some (.int .i64 r) ∧ w.cell? ⟨q, 1, none⟩ = some (.map (some m)) ∧ w.frozen? ⟨q, 0, none⟩ = false ∧ q < w.heap.size :=
  ⟨by rw [cell_of_row w q 0 _ _ _ h.row]; rfl, by rw [cell_of_row w q 1 _ _ _ h.row]; rfl, frozen_of_row _ _ _ _ _ h.row, (Array.getElem?_eq_some_iff.1 h.row).1⟩
theorem KvMid.on {w w' : World} {q m : Nat} {r : Int} {l : List Kv.En} (h : KvMid w q m r l) (hb : Below w.heap.size w w') : KvMid w' q m r l := ⟨(hb.block q h.cells.2.2.2).trans h.row, h.map.keep (hb.block m h.map.lt)⟩
theorem KvMid.turned {w w' : World} {q m : Nat} {r : Int} {l l' : List Kv.En} (h : KvMid w q m r l) (ht : w.mapTurned w' m) (hm : MapIs Try.prog 9 w' m l') : KvMid w' q m r l' :=
  ⟨(ht.grown.block q h.cells.2.2.2 (fun e => h.ne (by injection e))).trans h.row, hm⟩
theorem cell_heap {w w' : World} {b i : Nat} (h : w'.heap[b]? = w.heap[b]?) : w'.cell? ⟨b, i, none⟩ = w.cell? ⟨b, i, none⟩ := by unfold World.cell?; rw [h]
theorem SlR.poH {w : World} {b o n c : Nat} {l : List Kv.Po} (h : SlP w (some ⟨b, o, none⟩) n c l) {j : Nat} {x : Kv.Po} (hx : l[j]? = some x) {w' : World} (hb : w'.heap[b]? = w.heap[b]?) :
    w'.cell? ⟨b, o + j * 4, none⟩ = some (.string x.key) ∧ w'.cell? ⟨b, o + j * 4 + 1, none⟩ = some (.string x.val) ∧ w'.cell? ⟨b, o + j * 4 + 2, none⟩ = some (.int .i64 x.rev) ∧ w'.cell? ⟨b, o + j * 4 + 3, none⟩ = some (.bool x.drop) := by
  obtain ⟨h0, h1, h2, h3⟩ := h.po hx (Below.refl _ _)
  exact ⟨(cell_heap hb).trans h0, (cell_heap hb).trans h1, (cell_heap hb).trans h2, (cell_heap hb).trans h3⟩
theorem run_eql_map_nil (t k e : TypeId) (m : Option Nat) (w : World) (h : Try.prog.underlying t = some (.map k e)) : (binOp .eql t (.map m) (.map none)).run Try.prog w = .ok (.bool m.isNone) w := by
  simp only [binOp]
  simp [run_equal_map_nil w t k e m h]
theorem ops_apart {w : World} {q b o n c : Nat} {mo : Option Nat} {s : Kv.St} {l : List Kv.Po} (hk : KvIs w q mo s) (h : SlP w (some ⟨b, o, none⟩) n c l) (hl : 0 < l.length) : b ≠ q ∧ mo ≠ some b ∧ b < w.heap.size := by
  obtain ⟨h0, _⟩ := h.po (List.getElem?_eq_getElem hl) (Below.refl _ _)
  refine ⟨fun e => ?_, fun e => ?_, (h.cell hl).1⟩
  · subst e
    rw [cell_of_row _ _ _ _ _ _ hk.row] at h0
    generalize o + 0 * 4 = i at h0
    rcases i with _ | _ | i
    · cases h0
    · cases h0
    · simp at h0
  · subst e
    obtain ⟨D, ⟨es, clock, hb, _⟩, _⟩ := show MapIs Try.prog 9 w b s.l from hk.map
    simp [World.cell?, hb] at h0
set_option maxHeartbeats 1600000 in
set_option maxRecDepth 100000 in
theorem kvapply_any (w : World) (q m : Nat) (r : Int) (L : List Kv.En) (x : Kv.Po) (h : KvMid w q m r L) (hr : Kv.Rise L) (hl : L.length ≤ 1000000) (hk : x.key.size ≤ maxLen) :
    Calls Try.prog 26 #[.pointer (some ⟨q, 0, none⟩), opV x] w (fun e w' => e = .returned (.tuple #[]) ∧ KvMid w' q m r (Kv.step r L x) ∧ Kept (fun i => i = m) w w') := by
  have Q1 := heap_alloc_new w (.cells #[.string x.key, .string x.val, .int .i64 x.rev, .bool x.drop] 52)
  have BN := Lib.hid ((Below.refl w.heap.size w).alloc (Nat.le_refl _) (.cells #[.string x.key, .string x.val, .int .i64 x.rev, .bool x.drop] 52))
  have M2 := Lib.hid (h.on BN.out)
  have KS := Lib.hid hk
  have RI := Lib.hid hr
  have LB := Lib.hid hl
  have QH := Lib.hid Q1
  clear h hk hr hl Q1
  obtain ⟨ws, hws⟩ : ∃ ws, ws = w.alloc (.cells #[.string x.key, .string x.val, .int .i64 x.rev, .bool x.drop] 52) := ⟨_, rfl⟩
  obtain ⟨g, hg⟩ : ∃ g, g = w.heap.size := ⟨_, rfl⟩
  rw [← hws, ← hg] at QH
  rw [← hws] at BN M2
  have c0 : ws.cell? ⟨g, 0, none⟩ = some (.string x.key) := by rw [cell_of_row ws g 0 _ _ _ QH.out]; rfl
  have c1 : ws.cell? ⟨g, 1, none⟩ = some (.string x.val) := by rw [cell_of_row ws g 1 _ _ _ QH.out]; rfl
  have c3 : ws.cell? ⟨g, 3, none⟩ = some (.bool x.drop) := by rw [cell_of_row ws g 3 _ _ _ QH.out]; rfl
  obtain ⟨d0, d1, d2, d3⟩ := M2.out.cells
  have M3 := Lib.hid (M2.out.on (Below.refl ws.heap.size ws).drew)
  have K3 := Lib.hid ((Kept.of_below (F := fun i => i = m) BN.out).trans (Kept.of_below (F := fun _ => False) (Below.refl ws.heap.size ws).drew) fun _ _ hf => hf.elim)
  have HWS := Lib.hid hws
  have HG := Lib.hid hg
  cases hd : x.drop with
  | true =>
    have SE : Hid (Kv.step r L x = Kv.dropK L x.key) := by show _ = _; unfold Kv.step; rw [if_pos hd]
    obtain ⟨wd, hrun, hmd, htd⟩ := drop_run Try.underlying9 Try.underlying56 M3.out.map RI.out x.key KS.out 0
    have M4 := Lib.hid (M3.out.turned htd hmd)
    have K4 := Lib.hid (K3.out.trans (G := fun i => i = m) (Kept.of_grown htd.grown (fun k hk => by injection hk with hk; exact hk.symm)) fun _ _ hi => hi)
    rw [hd] at c3
    clear hmd htd hws hg
    rw [SE.out]
    unfold opV
    obtain ⟨key, val, rev, drop⟩ := x
    simp only at *
    obtain rfl := hd
    go_enter Try.func26, Try.ntmps26
    go_upto_region 1 with fail
    rw [← HWS.out, ← HG.out]
    clear HWS HG
    go_wp2_with fail
    go_region
    go_wp2_with fail
    go_end0
    exact ⟨rfl, M4.out, K4.out⟩
  | false =>
    have SE : Hid (Kv.step r L x = Kv.putK (Kv.dropK L x.key) ⟨x.key, x.val, r⟩) := by show _ = _; unfold Kv.step; rw [if_neg (by rw [hd]; simp)]
    obtain ⟨wd, hrun, hmd, htd⟩ := put_run Try.underlying9 Try.underlying56 M3.out.map RI.out LB.out x.key x.val r KS.out
    have M4 := Lib.hid (M3.out.turned htd hmd)
    have K4 := Lib.hid (K3.out.trans (G := fun i => i = m) (Kept.of_grown htd.grown (fun k hk => by injection hk with hk; exact hk.symm)) fun _ _ hi => hi)
    rw [hd] at c3
    clear hmd htd hws hg
    rw [SE.out]
    unfold opV
    obtain ⟨key, val, rev, drop⟩ := x
    simp only at *
    obtain rfl := hd
    go_enter Try.func26, Try.ntmps26
    go_upto_region 1 with fail
    rw [← HWS.out, ← HG.out]
    clear HWS HG
    go_wp2_with fail
    go_region
    go_wp2_with fail
    go_end0
    exact ⟨rfl, M4.out, K4.out⟩
set_option maxHeartbeats 3200000 in
set_option maxRecDepth 100000 in
theorem kvdo_any (W : World) (X : Nat → Prop) (q : Nat) (s : Kv.St) (n c : Nat) (A : Option Addr) (l : List Kv.Po) (hp : KvP W X q s) (hrv : s.rev ≤ 1000) (h : SlP W A n c l) (hz : l.length ≤ 70) :
    Calls Try.prog 12 #[.pointer (some ⟨q, 0, none⟩), .slice A n c] W (KDo KvP X q s l W) := by
  obtain ⟨mo, hk, hXq, hXm, hXl⟩ := hp
  have hn := h.len
  have hmx := h.max
  have hcp := h.cap
  unfold maxLen at hmx
  have hr0 := hk.good.rev0
  have HA := Lib.hid h
  have HN := Lib.hid hn
  have HZ := Lib.hid hz
  have HK := Lib.hid hk
  have HX : Hid (X q ∧ (∀ m, mo = some m → X m) ∧ ∀ i, X i → i < W.heap.size) := ⟨hXq, hXm, hXl⟩
  have STAY : ∀ {w' : World}, Below W.heap.size W w' → Kv.doE s l ≠ 0 → KDo KvP X q s l W (.returned (.tuple #[.int .i64 0, .int .i64 (Kv.doE s l : Nat)])) w' := fun {w'} hb h0 => by
    refine ⟨X, by rw [(Kv.doS_no h0).2], ?_, fun i hi => .inl hi, Kept.of_below hb⟩
    rw [(Kv.doS_no h0).1]
    exact ⟨mo, HK.out.on hb, HX.out.1, HX.out.2.1, fun i hi => Nat.lt_of_lt_of_le (HX.out.2.2 i hi) hb.size⟩
  have ST : Hid (∀ {w' : World}, Below W.heap.size W w' → Kv.doE s l ≠ 0 → KDo KvP X q s l W (.returned (.tuple #[.int .i64 0, .int .i64 (Kv.doE s l : Nat)])) w') := STAY
  have CA := Lib.hid (kvref_any W q mo s l n c A W HK.out HA.out (Below.refl _ _) HZ.out)
  have heq := fun m w => run_eql_map_nil _ _ _ m w Try.underlying56
  clear h hn hk hz hXq hXm hXl STAY
  by_cases h0 : Kv.doE s l = 0
  · have H0 := Lib.hid h0
    rw [h0] at CA
    clear h0
    cases mo with
    | some m =>
      go_enter Try.func12, Try.ntmps12
      go_upto_region 4 with (go_at_call 25; (with_reducible refine CA.out.mono ?_); rintro e w2 ⟨rfl, hb2⟩; have B2 := Lib.hid hb2; clear hb2)
      obtain ⟨c0, c1, f0, hq⟩ := (HK.out.on B2.out).cells
      have MID : Hid (KvMid (w2.setCell ⟨q, 0, none⟩ (.int .i64 (s.rev + 1))) q m (s.rev + 1) s.l) := ⟨heap_setCell_same _ _ _ _ _ _ (HK.out.on B2.out).row, MapIs.keep (HK.out.on B2.out).map (heap_setCell_other _ _ _ _ (by simpa using (HK.out.on B2.out).ne.symm))⟩
      have KP : Hid (Kept (fun i => i = q ∨ some m = some i) W (w2.setCell ⟨q, 0, none⟩ (.int .i64 (s.rev + 1)))) := (Kept.of_below (F := fun i => i = q ∨ some m = some i) B2.out).trans (G := fun i => i = q) (Kept.of_grown (row := some q) (grown_set _ _ _ _) (fun k hk => by injection hk with hk; exact hk.symm)) fun i _ hi => .inl hi
      have HM0 : Hid (m < W.heap.size → some m = some m) := fun _ => rfl
      go_wp2_with fail
      generalize w2.setCell ⟨q, 0, none⟩ (.int .i64 (s.rev + 1)) = w3 at *
      clear c0 c1 f0 hq
      go_loopw [33] (fun i wr => ∃ j : Nat, j ≤ n ∧ i = .int .i64 j ∧ KvMid wr q m (s.rev + 1) ((l.take j).foldl (Kv.step (s.rev + 1)) s.l) ∧ Kept (fun i => i = q ∨ some m = some i) W wr ∧ (m < W.heap.size → some m = some m)) (fun i _ => n - (intOf i).toNat)
      case atStart => exact ⟨0, by omega, rfl, MID.out, KP.out, fun _ => rfl⟩
      case round =>
        obtain ⟨j, hj, rfl, hm, hkp, hm0⟩ := hrel
        have MD := Lib.hid hm
        have KE := Lib.hid hkp
        have HM1 := Lib.hid hm0
        clear hm hkp hm0
        by_cases hlt : j < n
        · obtain ⟨b1, o1, rfl⟩ := HA.out.addr (by have := HN.out; omega)
          have EA : Hid (l[j]? = some (l[j]'(by have := HN.out; omega))) := List.getElem?_eq_getElem _
          generalize l[j]'(by have := HN.out; omega) = x at *
          have AP := ops_apart HK.out HA.out (by have := HN.out; omega)
          obtain ⟨p0, p1, p2, p3⟩ := HA.out.poH EA.out (KE.out.block b1 AP.2.2 (by rintro (e | e); exact AP.1 e; exact AP.2.1 e))
          have KS := Lib.hid (HA.out.poOk (List.mem_of_getElem? EA.out)).1
          have LS := Lib.hid (Kv.steps_snoc (s.rev + 1) EA.out s.l)
          have RI := Lib.hid (Kv.steps_rise (r := s.rev + 1) (ops := l.take j) HK.out.good.rise)
          have LB : Hid (((l.take j).foldl (Kv.step (s.rev + 1)) s.l).length ≤ 1000000) := by
            have h1 := Kv.steps_length (s.rev + 1) (l.take j) s.l
            rw [List.length_take] at h1
            have := HK.out.good.len; have := HZ.out
            show _ ≤ _; omega
          generalize (l.take j).foldl (Kv.step (s.rev + 1)) s.l = L at *
          clear AP
          have Q1 := Lib.hid (heap_alloc_new wr (.cells #[.string x.key, .string x.val, .int .i64 x.rev, .bool x.drop] 52))
          have BN := Lib.hid ((Below.refl wr.heap.size wr).alloc (Nat.le_refl _) (.cells #[.string x.key, .string x.val, .int .i64 x.rev, .bool x.drop] 52))
          have M2 := Lib.hid (MD.out.on BN.out)
          have K2 := Lib.hid (KE.out.trans (Kept.of_below (F := fun _ => False) BN.out) fun _ _ hf => hf.elim)
          have CP := Lib.hid (kvapply_any _ q m _ L x M2.out RI.out LB.out KS.out)
          rw [← LS.out] at CP
          go_wp2_with (go_at_call 26; (with_reducible refine CP.out.mono ?_); rintro e w4 ⟨rfl, hm4, hk4⟩; have M4 := Lib.hid hm4; have K4 := Lib.hid (K2.out.trans hk4 (fun i hi e => by subst e; exact .inr rfl)); clear hm4 hk4)
          exact ⟨⟨j + 1, by omega, by go_num, M4.out, K4.out, by simp⟩, by simp [intOf]; omega⟩
        · have E : Hid (l.take j = l) := List.take_of_length_le (by have := HN.out; omega)
          rw [E.out] at MD
          obtain ⟨d0, d1, d2, d3⟩ := MD.out.cells
          go_wp2_with fail
          have hok := Kv.doS_ok H0.out
          have hgd := Kv.doS_good HK.out.good l
          have hp : KDo KvP X q s l W (.returned (.tuple #[.int .i64 (s.rev + 1), .int .i64 0])) wr := by
            refine ⟨fun i => X i ∨ i = m, by rw [hok.2, H0.out]; rfl, ?_, fun i hi => ?_, KE.out.more fun i _ hi => ?_⟩
            · rw [hok.1] at hgd ⊢
              exact ⟨some m, ⟨MD.out.row, MD.out.map, hgd⟩, .inl HX.out.1, fun k hk => .inr (by injection hk with hk; exact hk.symm), fun i hi => by
                rcases hi with hi | rfl
                · exact Nat.lt_of_lt_of_le (HX.out.2.2 i hi) KE.out.size
                · exact MD.out.map.lt⟩
            · rcases hi with hi | rfl
              · exact .inl hi
              · rcases Nat.lt_or_ge i W.heap.size with h | h
                · exact .inl (HX.out.2.1 i rfl)
                · exact .inr h
            · rcases hi with rfl | hi
              · exact HX.out.1
              · exact HX.out.2.1 i hi
          exact bodyPost_ret (v := .tuple #[.int .i64 (s.rev + 1), .int .i64 0]) (by simp [results, Try.results12, go_sem]) rfl hp
    | none =>
      go_enter Try.func12, Try.ntmps12
      have hmm := @run_makeMap Try.prog
      go_upto_region 4 with (go_at_call 25; (with_reducible refine CA.out.mono ?_); rintro e w2 ⟨rfl, hb2⟩; have B2 := Lib.hid hb2; clear hb2)
      obtain ⟨c0, c1, f0, hq⟩ := (HK.out.on B2.out).cells
      have f1 : w2.frozen? ⟨q, 1, none⟩ = false := frozen_of_row _ _ _ _ _ (HK.out.on B2.out).row
      have BM := Lib.hid ((Below.refl w2.heap.size w2).alloc (Nat.le_refl _) (.map #[] 0))
      have S0 := Lib.hid (MapIs.made (P := Try.prog) (kt := 9) w2)
      have RW := Lib.hid ((HK.out.on B2.out).on BM.out).row
      have EL : Hid (s.l = []) := HK.out.map
      have MID : Hid (KvMid ((w2.alloc (.map #[] 0)).setCell ⟨q, 1, none⟩ (.map (some w2.heap.size))) q w2.heap.size s.rev s.l) := ⟨heap_setCell_same _ _ _ _ _ _ RW.out, by rw [EL.out]; exact S0.out.keep (heap_setCell_other _ _ _ _ (by simp; omega))⟩
      have KP : Hid (Kept (fun i => i = q ∨ none = some i) W ((w2.alloc (.map #[] 0)).setCell ⟨q, 1, none⟩ (.map (some w2.heap.size)))) := (Kept.of_below (F := fun i => i = q ∨ none = some i) (B2.out.trans (BM.out.mono B2.out.size))).trans (G := fun i => i = q) (Kept.of_grown (row := some q) (grown_set _ _ _ _) (fun k hk => by injection hk with hk; exact hk.symm)) fun i _ hi => .inl hi
      have HM0 : Hid (w2.heap.size < W.heap.size → none = some w2.heap.size) := fun h => by have := B2.out.size; omega
      have EW : Hid ((w2.alloc (.map #[] 0)).setCell ⟨q, 1, none⟩ (.map (some w2.heap.size)) = (w2.setCell ⟨q, 1, none⟩ (.map (some w2.heap.size))).alloc (.map #[] 0)) := World.setCell_alloc_past _ _ _ _ hq
      rw [EW.out] at MID KP
      go_upto_region 6 with fail
      obtain ⟨m, hm⟩ : ∃ m, m = w2.heap.size := ⟨_, rfl⟩
      rw [← hm] at MID KP HM0 ⊢
      clear hm hmm c0 c1 f0 f1 hq BM S0 RW EW
      generalize (w2.setCell ⟨q, 1, none⟩ (.map (some m))).alloc (.map #[] 0) = w5 at *
      obtain ⟨c0, c1, f0, hq⟩ := MID.out.cells
      have MID : Hid (KvMid (w5.setCell ⟨q, 0, none⟩ (.int .i64 (s.rev + 1))) q m (s.rev + 1) s.l) := ⟨heap_setCell_same _ _ _ _ _ _ MID.out.row, MID.out.map.keep (heap_setCell_other _ _ _ _ (by simpa using MID.out.ne.symm))⟩
      have KP : Hid (Kept (fun i => i = q ∨ none = some i) W (w5.setCell ⟨q, 0, none⟩ (.int .i64 (s.rev + 1)))) := KP.out.trans (G := fun i => i = q) (Kept.of_grown (row := some q) (grown_set _ _ _ _) (fun k hk => by injection hk with hk; exact hk.symm)) fun i _ hi => .inl hi
      go_wp2_with fail
      generalize w5.setCell ⟨q, 0, none⟩ (.int .i64 (s.rev + 1)) = w3 at *
      clear c0 c1 f0 hq
      go_loopw [33] (fun i wr => ∃ j : Nat, j ≤ n ∧ i = .int .i64 j ∧ KvMid wr q m (s.rev + 1) ((l.take j).foldl (Kv.step (s.rev + 1)) s.l) ∧ Kept (fun i => i = q ∨ none = some i) W wr ∧ (m < W.heap.size → none = some m)) (fun i _ => n - (intOf i).toNat)
      case atStart => exact ⟨0, by omega, rfl, MID.out, KP.out, HM0.out⟩
      case round =>
        obtain ⟨j, hj, rfl, hm, hkp, hm0⟩ := hrel
        have MD := Lib.hid hm
        have KE := Lib.hid hkp
        have HM1 := Lib.hid hm0
        clear hm hkp hm0
        by_cases hlt : j < n
        · obtain ⟨b1, o1, rfl⟩ := HA.out.addr (by have := HN.out; omega)
          have EA : Hid (l[j]? = some (l[j]'(by have := HN.out; omega))) := List.getElem?_eq_getElem _
          generalize l[j]'(by have := HN.out; omega) = x at *
          have AP := ops_apart HK.out HA.out (by have := HN.out; omega)
          obtain ⟨p0, p1, p2, p3⟩ := HA.out.poH EA.out (KE.out.block b1 AP.2.2 (by rintro (e | e); exact AP.1 e; exact AP.2.1 e))
          have KS := Lib.hid (HA.out.poOk (List.mem_of_getElem? EA.out)).1
          have LS := Lib.hid (Kv.steps_snoc (s.rev + 1) EA.out s.l)
          have RI := Lib.hid (Kv.steps_rise (r := s.rev + 1) (ops := l.take j) HK.out.good.rise)
          have LB : Hid (((l.take j).foldl (Kv.step (s.rev + 1)) s.l).length ≤ 1000000) := by
            have h1 := Kv.steps_length (s.rev + 1) (l.take j) s.l
            rw [List.length_take] at h1
            have := HK.out.good.len; have := HZ.out
            show _ ≤ _; omega
          generalize (l.take j).foldl (Kv.step (s.rev + 1)) s.l = L at *
          clear AP
          have Q1 := Lib.hid (heap_alloc_new wr (.cells #[.string x.key, .string x.val, .int .i64 x.rev, .bool x.drop] 52))
          have BN := Lib.hid ((Below.refl wr.heap.size wr).alloc (Nat.le_refl _) (.cells #[.string x.key, .string x.val, .int .i64 x.rev, .bool x.drop] 52))
          have M2 := Lib.hid (MD.out.on BN.out)
          have K2 := Lib.hid (KE.out.trans (Kept.of_below (F := fun _ => False) BN.out) fun _ _ hf => hf.elim)
          have CP := Lib.hid (kvapply_any _ q m _ L x M2.out RI.out LB.out KS.out)
          rw [← LS.out] at CP
          go_wp2_with (go_at_call 26; (with_reducible refine CP.out.mono ?_); rintro e w4 ⟨rfl, hm4, hk4⟩; have M4 := Lib.hid hm4; have K4 := Lib.hid (K2.out.trans hk4 (fun i hi e => by subst e; exact .inr (HM1.out hi))); clear hm4 hk4)
          exact ⟨⟨j + 1, by omega, by go_num, M4.out, K4.out, HM1.out⟩, by simp [intOf]; omega⟩
        · have E : Hid (l.take j = l) := List.take_of_length_le (by have := HN.out; omega)
          rw [E.out] at MD
          obtain ⟨d0, d1, d2, d3⟩ := MD.out.cells
          go_wp2_with fail
          have hok := Kv.doS_ok H0.out
          have hgd := Kv.doS_good HK.out.good l
          have hp : KDo KvP X q s l W (.returned (.tuple #[.int .i64 (s.rev + 1), .int .i64 0])) wr := by
            refine ⟨fun i => X i ∨ i = m, by rw [hok.2, H0.out]; rfl, ?_, fun i hi => ?_, KE.out.more fun i _ hi => ?_⟩
            · rw [hok.1] at hgd ⊢
              exact ⟨some m, ⟨MD.out.row, MD.out.map, hgd⟩, .inl HX.out.1, fun k hk => .inr (by injection hk with hk; exact hk.symm), fun i hi => by
                rcases hi with hi | rfl
                · exact Nat.lt_of_lt_of_le (HX.out.2.2 i hi) KE.out.size
                · exact MD.out.map.lt⟩
            · rcases hi with hi | rfl
              · exact .inl hi
              · rcases Nat.lt_or_ge i W.heap.size with h | h
                · exact .inl (HX.out.2.1 i (HM1.out h))
                · exact .inr h
            · rcases hi with rfl | hi
              · exact HX.out.1
              · exact HX.out.2.1 i hi
          exact bodyPost_ret (v := .tuple #[.int .i64 (s.rev + 1), .int .i64 0]) (by simp [results, Try.results12, go_sem]) rfl hp
  · have H0 := Lib.hid h0
    obtain ⟨z, hz⟩ : ∃ z, z = Kv.doE s l := ⟨_, rfl⟩
    rw [← hz] at h0 CA
    have hz0 : ((z : Int) == 0) = false := by rw [beq_eq_false_iff_ne]; omega
    have HZ1 := Lib.hid hz
    clear hz
    go_enter Try.func12, Try.ntmps12
    go_wp2_with (go_at_call 25; (with_reducible refine CA.out.mono ?_); rintro e w2 ⟨rfl, hb2⟩; have B2 := Lib.hid hb2; clear hb2)
    have hs := ST.out B2.out H0.out
    rw [← HZ1.out] at hs
    exact bodyPost_ret (v := .tuple #[.int .i64 0, .int .i64 (z : Nat)]) (by simp [results, Try.results12, go_sem]) rfl hs
theorem kc_any : KC KvP where
  keep := fun _ _ _ q _ ⟨mo, h, h1, h2, h3⟩ hs hk => ⟨mo, h.keep (hk q h1) (fun m e => hk m (h2 m e)), h1, h2, fun i hi => Nat.lt_of_lt_of_le (h3 i hi) hs⟩
  lt := fun _ _ _ _ ⟨_, _, _, _, h3⟩ => h3
  good := fun _ _ _ _ ⟨_, h, _⟩ => h.good
  make := kvnew_any
  do_ := fun W X q s n c A ops h hr hs hz => kvdo_any W X q s n c A ops h hr hs hz
  get := fun W _ q s k ⟨mo, h, _⟩ hk => kvget_ask W _ mo s h.ask k hk
  rev := fun W _ q s ⟨mo, h, _⟩ => kvrev_ask W _ mo s h.ask
  len := fun W _ q s ⟨mo, h, _⟩ => (kvlen_ask W _ mo s h.ask).mono fun e w' ⟨h1, h2⟩ => ⟨h1, by rw [h2]; exact Below.refl _ _⟩
  keys := fun W _ q s ⟨mo, h, _⟩ => kvkeys_ask W _ mo s h.ask
  since := fun W _ q s r ⟨mo, h, _⟩ _ => kvsince_ask W _ mo s r h.ask
theorem kn_any : KN where
  do_ := fun W n c A ops h => by
    have CA := Lib.hid (kvref_nil W n c A)
    go_enter Try.func12, Try.ntmps12
    go_wp2_with (go_at_call 25; (with_reducible refine CA.out.mono ?_); rintro e w2 ⟨rfl, hb2⟩; have B2 := Lib.hid hb2; clear hb2)
    exact bodyPost_ret (v := .tuple #[.int .i64 0, .int .i64 1]) (by simp [results, Try.results12, go_sem]) rfl ⟨rfl, B2.out⟩
  get := kvget_nil
  rev := fun W => kvrev_ask W _ _ _ (EAt.nil W)
  len := fun W => (kvlen_ask W _ _ _ (EAt.nil W)).mono fun e w' ⟨h1, h2⟩ => ⟨h1, by rw [h2]; exact Below.refl _ _⟩
  keys := fun W => kvkeys_ask W _ _ _ (EAt.nil W)
  since := fun W r _ => kvsince_ask W _ _ _ r (EAt.nil W)
end Go.Proofs.Ytmkfiiheeplmgaa
