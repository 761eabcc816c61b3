/-
  The document's package of layer 8: Do. No condition.
-/
import Derived.Test.YtmkfiiheeplmgaaKvRef5
import Derived.Test.YtmkfiiheeplmgaaRegion
namespace Go.Proofs.Ytmkfiiheeplmgaa
open Go.RowKit Go.Deep

/-- What Do answers of a store in a row of the caller's own. -/
def RDo (s : Kv.St) (ops : List Kv.Po) (B : Nat) (v : Value) (w : World) (e : Ending) (w' : World) : Prop :=
  ∃ v', e = .returned (.tuple #[.agg #[v', .int .i64 (Kv.doS s ops).rev], .int .i64 (Kv.doN s ops), .int .i64 (Kv.doE s ops : Nat)]) ∧ OwnEn w' B v' (Kv.doS s ops).l ∧ (v' = v ∨ ∀ b, v'.ownBlock = some b → w.heap.size ≤ b) ∧ Below w.heap.size w w'
theorem RAt.cell0 {w : World} {g : Nat} {v : Value} {r : Int} (h : RAt w g v r) : w.frozen? ⟨g, 0, none⟩ = false ∧ w.frozen? ⟨g, 1, none⟩ = false := ⟨frozen_of_row _ _ _ _ _ h.row, frozen_of_row _ _ _ _ _ h.row⟩
theorem RAt.set {w : World} {g : Nat} {v : Value} {r : Int} (h : RAt w g v r) (v' : Value) (r' : Int) : RAt ((w.setCell ⟨g, 0, none⟩ v').setCell ⟨g, 1, none⟩ (.int .i64 r')) g v' r' := by
  have h1 := heap_setCell_same w g 0 _ _ v' h.row
  have h2 := heap_setCell_same (w.setCell ⟨g, 0, none⟩ v') g 1 _ _ (.int .i64 r') h1
  exact ⟨h2⟩
theorem RAt.grown (w : World) (g : Nat) (v' : Value) (r' : Int) : w.grownBy ((w.setCell ⟨g, 0, none⟩ v').setCell ⟨g, 1, none⟩ (.int .i64 r')) (some g) := grown_trans (grown_set _ _ _ _) (grown_set _ _ _ _)
/-- The store that is answered, laid in the answer's block. -/
theorem RTwo.ret {w : World} {g : Nat} {v u : Value} {r s : Int} (h : RTwo w g v u r s) (v' : Value) (r' : Int) :
    ((w.setCell ⟨g + 1, 0, none⟩ v').setCell ⟨g + 1, 1, none⟩ (.int .i64 r')).cell? ⟨g + 1, 0, none⟩ = some v' ∧ ((w.setCell ⟨g + 1, 0, none⟩ v').setCell ⟨g + 1, 1, none⟩ (.int .i64 r')).cell? ⟨g + 1, 1, none⟩ = some (.int .i64 r') := by
  have e1 := World.cell?_setCell_same _ _ v' h.b0
  have e2 : (w.setCell ⟨g + 1, 0, none⟩ v').cell? ⟨g + 1, 1, none⟩ = some (.int .i64 s) := (World.cell?_setCell_other _ _ _ _ (by simp)).trans h.b1
  exact ⟨(World.cell?_setCell_other _ _ _ _ (by simp)).trans e1, World.cell?_setCell_same _ _ _ e2⟩
theorem below_two {w0 w : World} {B g : Nat} (h : Below B w0 w) (hB : B ≤ g) (v v' : Value) : Below B w0 ((w.setCell ⟨g, 0, none⟩ v).setCell ⟨g, 1, none⟩ v') :=
  (h.setCell (p := ⟨g, 0, none⟩) hB v).setCell (p := ⟨g, 1, none⟩) hB v'
theorem block_two (w : World) (g i : Nat) (v v' : Value) (h : i ≠ g) : ((w.setCell ⟨g, 0, none⟩ v).setCell ⟨g, 1, none⟩ v').heap[i]? = w.heap[i]? := by
  rw [heap_setCell_other _ _ _ _ (by simpa using h), heap_setCell_other _ _ _ _ (by simpa using h)]
/-- What stays in all rounds in which the ops are done. -/
def SDo (w1 : World) (g : Nat) (r : Int) (W : World) : Prop := Below w1.heap.size w1 W ∧ g < W.heap.size ∧ W.cell? ⟨g, 1, none⟩ = some (.int .i64 r)
theorem SDo.on {w1 W W' : World} {g : Nat} {r : Int} (h : SDo w1 g r W) (hb : Below W.heap.size W W') : SDo w1 g r W' := ⟨h.1.trans (hb.mono h.1.size), Nat.lt_of_lt_of_le h.2.1 hb.size, (hb.cell (p := ⟨g, 1, none⟩) h.2.1).trans h.2.2⟩
theorem SDo.of {w1 W : World} {g : Nat} {v : Value} {r : Int} (hb : Below w1.heap.size w1 W) (h : RAt W g v r) : SDo w1 g r W := ⟨hb, h.cells.2.2, h.cells.2.1⟩
theorem rput_at (l : List Kv.En) (r : Int) (n c : Nat) (A : Option Addr) (k v : ByteArray) (x : Int) (w : World) (h : SlE w A n c l) (hz : l.length ≤ 1000) :
    Calls Try.prog 29 #[.agg #[.slice A n c, .int .i64 r], .agg #[.string k, .string v, .int .i64 x]] w (RPost (Kv.putK l ⟨k, v, x⟩) r w) := rput_any l r n c A ⟨k, v, x⟩ w h hz
namespace Kv
theorem step_length (r : Int) (l : List En) (o : Po) : (step r l o).length ≤ l.length + 1 := by
  have h1 : (dropK l o.key).length ≤ l.length := List.length_filter_le ..
  unfold step
  split
  · omega
  · rw [putK_length]; omega
theorem steps_length (r : Int) (ops : List Po) (l : List En) : (ops.foldl (step r) l).length ≤ l.length + ops.length := by
  induction ops generalizing l with
  | nil => simp
  | cons o ops ih =>
    have h1 := ih (step r l o)
    have h2 := step_length r l o
    rw [List.foldl_cons, List.length_cons]; omega
theorem steps_snoc (r : Int) {ops : List Po} {j : Nat} {o : Po} (h : ops[j]? = some o) (l : List En) : (ops.take (j + 1)).foldl (step r) l = step r ((ops.take j).foldl (step r) l) o := by
  rw [List.take_add_one, h, List.foldl_append]; rfl
end Kv
set_option maxHeartbeats 6400000 in
set_option maxRecDepth 100000 in
theorem rdo_any (s : Kv.St) (hs : Kv.Good s) (hrv : s.rev ≤ 1000) (ops : List Kv.Po) (bs n c m c' : Nat) (A A' : Option Addr) (w : World) (ho : OwnEn w bs (.slice A n c) s.l) (hB : bs ≤ w.heap.size) (h : SlP w A' m c' ops) (hz : ops.length ≤ 70) :
    Calls Try.prog 14 #[.agg #[.slice A n c, .int .i64 s.rev], .slice A' m c'] w (RDo s ops bs (.slice A n c) w) := by
  have hm := h.len
  have hmx := h.max
  have hcp := h.cap
  unfold maxLen at hmx
  have GS := Lib.hid hs
  have hr0 := hs.rev0
  have hn := ho.len
  have hnmx := hn.2.2
  unfold maxLen at hnmx
  have hncp := hn.2.1
  have HN := Lib.hid hn.1
  have LZ : Hid (s.l.length ≤ 64) := hs.len
  have B1 := Lib.hid (((Below.refl w.heap.size w).alloc (Nat.le_refl _) (.cells #[.slice A n c, .int .i64 s.rev] 28)).alloc (by simp) (.cells #[.slice none 0 0, .int .i64 0] 28))
  have R1 := Lib.hid (RTwo.new w (.slice A n c) s.rev)
  have HA := Lib.hid (ho.readE.on EEn.on B1.out)
  have OA := Lib.hid (OwnEn.any (w1 := (w.alloc (.cells #[.slice A n c, .int .i64 s.rev] 28)).alloc (.cells #[.slice none 0 0, .int .i64 0] 28)) (ho.below B1.out))
  have OL : Hid (∀ b, (Value.slice A n c).ownBlock = some b → b < w.heap.size) := fun b hb => (ho.lt b hb).2
  have HO := Lib.hid (h.on EPo.on B1.out)
  have HM := Lib.hid hm
  have HZ := Lib.hid hz
  have HB := Lib.hid hB
  clear h hm hz ho hn hs hB
  obtain ⟨x, hx⟩ : ∃ x : Bool, (x = true ↔ Kv.Right ops) := by
    by_cases h : Kv.Right ops
    · exact ⟨true, by simp [h]⟩
    · exact ⟨false, by simp [h]⟩
  have HX := Lib.hid hx
  clear hx
  go_enter Try.func14, Try.ntmps14
  go_upto_region 2 with (go_at_call 27; (with_reducible refine (rright_any ops m c' A' _ HO.out).mono ?_); rintro e wx ⟨⟨y, rfl, hy⟩, hbx⟩; obtain rfl : y = x := Bool.eq_iff_iff.2 (hy.trans HX.out.symm); have BX := Lib.hid hbx; clear hbx hy)
  obtain ⟨g, hg⟩ : ∃ g, g = w.heap.size := ⟨_, rfl⟩
  rw [← hg] at R1 ⊢
  generalize (w.alloc (.cells #[.slice A n c, .int .i64 s.rev] 28)).alloc (.cells #[.slice none 0 0, .int .i64 0] 28) = w1 at *
  have HG := Lib.hid hg
  clear hg
  have R2 := Lib.hid (R1.out.on BX.out)
  obtain ⟨q0, q1, k0, k1, f0, f1, f2, hgl⟩ := R1.out.on BX.out
  cases y with
  | false =>
    have NE : Hid (Kv.doE s ops = 1) := Kv.doE_right fun h => by have := HX.out.2 h; cases this
    have RR := Lib.hid (R2.out.ret (.slice A n c) s.rev)
    have WB : Hid (Below w.heap.size w ((wx.setCell ⟨g + 1, 0, none⟩ (.slice A n c)).setCell ⟨g + 1, 1, none⟩ (.int .i64 s.rev))) := below_two (B1.out.trans (BX.out.mono B1.out.size)) (by have := HG.out; omega) _ _
    have WO : Hid (OwnEn ((wx.setCell ⟨g + 1, 0, none⟩ (.slice A n c)).setCell ⟨g + 1, 1, none⟩ (.int .i64 s.rev)) bs (.slice A n c) s.l) := OwnEn.any ((OA.out.below BX.out).keep fun i hi => block_two _ _ _ _ _ (by have := OL.out i hi; have := HG.out; omega))
    go_wp2_with fail
    generalize (wx.setCell ⟨g + 1, 0, none⟩ (.slice A n c)).setCell ⟨g + 1, 1, none⟩ (.int .i64 s.rev) = wz at *
    obtain ⟨z0, z1⟩ := RR.out
    have hno := Kv.doS_no (s := s) (ops := ops) (by rw [NE.out]; omega)
    exact bodyPost_ret (v := .tuple #[.agg #[.slice A n c, .int .i64 s.rev], .int .i64 0, .int .i64 1]) (by simp [results, Try.results14, go_sem, z0, z1]) rfl ⟨_, by rw [hno.1, hno.2, NE.out]; rfl, by rw [hno.1]; exact WO.out, .inl rfl, WB.out⟩
  | true =>
    have RT : Hid (Kv.Right ops) := HX.out.1 rfl
    go_wp2_with fail
    go_loopw [8] (fun i wr => ∃ j : Nat, j ≤ m ∧ i = .int .i64 j ∧ (∀ o ∈ ops.take j, ¬ Kv.Odd s o) ∧ Below w1.heap.size w1 wr) (fun i _ => m - (intOf i).toNat)
    case atStart => exact ⟨0, by omega, rfl, by simp, BX.out⟩
    case round =>
      obtain ⟨j, hj, rfl, hod, hbr⟩ := hrel
      have OD := Lib.hid hod
      have B := Lib.hid hbr
      clear hod hbr
      by_cases hlt : j < m
      · obtain ⟨b1, o1, rfl⟩ := HO.out.addr (by have := HM.out; omega)
        have EO : Hid (ops[j]? = some (ops[j]'(by have := HM.out; omega))) := List.getElem?_eq_getElem _
        generalize ops[j]'(by have := HM.out; omega) = o at *
        have OM : Hid (o ∈ ops) := List.mem_of_getElem? EO.out
        have CG : Hid (∀ W, Below w1.heap.size w1 W → Calls Try.prog 17 #[.agg #[.slice A n c, .int .i64 s.rev], .string o.key] W fun e w' => e = .returned (.tuple #[.string (Kv.valOf s.l o.key), .int .i64 (Kv.revOf s.l o.key)]) ∧ Below W.heap.size W w') := fun W hW => rget_any s.l s.rev n c A o.key W (HA.out.on EEn.on hW)
        have X1 : Hid (∀ W, Below w1.heap.size w1 W → W.cell? ⟨g, 0, none⟩ = some (.slice A n c) ∧ W.cell? ⟨g, 1, none⟩ = some (.int .i64 s.rev) ∧ W.cell? ⟨b1, o1 + j * 4, none⟩ = some (.string o.key)) := fun W hW => ⟨(R1.out.on hW).a0, (R1.out.on hW).a1, (HO.out.po EO.out hW).1⟩
        have RV := Kv.rev_range GS.out o.key
        obtain ⟨rv, hrv⟩ : ∃ rv, rv = Kv.revOf s.l o.key := ⟨_, rfl⟩
        rw [← hrv] at CG RV
        have HRV := Lib.hid hrv
        clear hrv
        have ODx := HO.out.poOk OM.out
        have hi1 := ODx.2.2.1
        have hi2 := ODx.2.2.2
        clear ODx q0 q1 k0 k1 f0 f1 f2 hgl
        go_upto_region 7 with fail
        refine wp_region_held_drew (S := fun W => Below w1.heap.size w1 W) (by kernel_rfl) B.out.drew (fun hS => ?_)
        refine tkYes 0 (v := ?_) rfl (by kernel_rfl) (fun _ _ _ h => h) rfl ?_ hS ?_
        rotate_left
        · intro W hW; obtain ⟨x1, x2, x3⟩ := X1.out W hW; go_simp; (try with_reducible rfl)
        simp only [Act.put, List.setIfInBounds_toArray, List.set_cons_zero, List.set_cons_succ]
        refine tkYes 1 (v := ?_) rfl (by kernel_rfl) (fun _ _ _ h => h) rfl ?_ hS ?_
        rotate_left
        · intro W hW; go_simp; (try with_reducible rfl)
        simp only [Act.put, List.setIfInBounds_toArray, List.set_cons_zero, List.set_cons_succ]
        refine tkYes 2 (v := ?_) rfl (by kernel_rfl) (fun _ _ _ h => h) rfl ?_ hS ?_
        rotate_left
        · intro W hW; go_simp; (try with_reducible rfl)
        simp only [Act.put, List.setIfInBounds_toArray, List.set_cons_zero, List.set_cons_succ]
        refine tkYes 3 (v := ?_) rfl (by kernel_rfl) (fun _ _ _ h => h) rfl ?_ hS ?_
        rotate_left
        · intro W hW; go_simp; (try with_reducible rfl)
        simp only [Act.put, List.setIfInBounds_toArray, List.set_cons_zero, List.set_cons_succ]
        refine tkYes 4 (v := ?_) rfl (by kernel_rfl) (fun _ _ _ h => h) rfl ?_ hS ?_
        rotate_left
        · intro W hW; go_simp; (try with_reducible rfl)
        simp only [Act.put, List.setIfInBounds_toArray, List.set_cons_zero, List.set_cons_succ]
        refine tkYes 5 (v := ?_) rfl (by kernel_rfl) (fun _ _ _ h => h) rfl ?_ hS ?_
        rotate_left
        · intro W hW; obtain ⟨x1, x2, x3⟩ := X1.out W hW; go_simp; (try with_reducible rfl)
        simp only [Act.put, List.setIfInBounds_toArray, List.set_cons_zero, List.set_cons_succ]
        refine rnOne 6 rfl (by kernel_rfl) rfl (fun K hK => ?_)
        go_simp
        with_reducible refine (CG.out _ hS).mono ?_
        rintro e wd ⟨rfl, hW⟩
        have hS2 := hS.trans (hW.mono hS.size)
        clear hS hW
        have hS := hS2
        clear hS2
        refine hK.out _ _ hS (fun _ => ?_)
        clear hK K
        try simp only [Act.put, List.setIfInBounds_toArray, List.set_cons_zero, List.set_cons_succ]
        refine tkYes 7 (v := ?_) rfl (by kernel_rfl) (fun _ _ _ h => h) rfl ?_ hS ?_
        rotate_left
        · intro W hW; go_simp; (try with_reducible rfl)
        simp only [Act.put, List.setIfInBounds_toArray, List.set_cons_zero, List.set_cons_succ]
        refine tkYes 8 (v := ?_) rfl (by kernel_rfl) (fun _ _ _ h => h) rfl ?_ hS ?_
        rotate_left
        · intro W hW; go_simp; (try with_reducible rfl)
        simp only [Act.put, List.setIfInBounds_toArray, List.set_cons_zero, List.set_cons_succ]
        refine tkYes 9 (v := ?_) rfl (by kernel_rfl) (fun _ _ _ h => h) rfl ?_ hS ?_
        rotate_left
        · intro W hW; go_simp; (try with_reducible rfl)
        simp only [Act.put, List.setIfInBounds_toArray, List.set_cons_zero, List.set_cons_succ]
        refine tkYes 10 (v := ?_) rfl (by kernel_rfl) (fun _ _ _ h => h) rfl ?_ hS ?_
        rotate_left
        · intro W hW; go_simp; (try with_reducible rfl)
        simp only [Act.put, List.setIfInBounds_toArray, List.set_cons_zero, List.set_cons_succ]
        refine tkYes 11 (v := ?_) rfl (by kernel_rfl) (fun _ _ _ h => h) rfl ?_ hS ?_
        rotate_left
        · intro W hW; go_simp; (try with_reducible rfl)
        simp only [Act.put, List.setIfInBounds_toArray, List.set_cons_zero, List.set_cons_succ]
        refine wpAnyH_done (by kernel_rfl) ?_ _
        have PX := Lib.hid hS
        obtain ⟨p0, p1, p2, p3⟩ := HO.out.po EO.out hS
        obtain ⟨q0, q1, k0, k1, f0, f1, f2, hgl⟩ := R1.out.on hS
        clear hS
        by_cases h1 : 0 ≤ o.rev
        · by_cases h2 : o.rev = rv
          · have NO : Hid (¬ Kv.Odd s o) := fun h => h.2 (by rw [← HRV.out]; exact h2)
            have H2 := Lib.hid h2
            have OD2 : Hid (∀ u ∈ ops.take (j + 1), ¬ Kv.Odd s u) := fun u hu => by
              rw [List.take_add_one, EO.out] at hu
              rcases List.mem_append.1 hu with hu | hu
              · exact OD.out u hu
              · simp at hu; subst hu; exact NO.out
            go_wp2_with fail
            exact ⟨⟨j + 1, by omega, by go_num, OD2.out, PX.out⟩, by simp [intOf]; omega⟩
          · have NE : Hid (Kv.doE s ops = 7) := Kv.doE_odd RT.out ⟨o, OM.out, h1, by rw [← HRV.out]; exact h2⟩
            have RR := Lib.hid ((R1.out.on PX.out).ret (.slice A n c) s.rev)
            have WB : Hid (Below w.heap.size w ((wd.setCell ⟨g + 1, 0, none⟩ (.slice A n c)).setCell ⟨g + 1, 1, none⟩ (.int .i64 s.rev))) := below_two (B1.out.trans (PX.out.mono B1.out.size)) (by have := HG.out; omega) _ _
            have WO : Hid (OwnEn ((wd.setCell ⟨g + 1, 0, none⟩ (.slice A n c)).setCell ⟨g + 1, 1, none⟩ (.int .i64 s.rev)) bs (.slice A n c) s.l) := OwnEn.any ((OA.out.below PX.out).keep fun i hi => block_two _ _ _ _ _ (by have := OL.out i hi; have := HG.out; omega))
            go_wp2_with fail
            generalize (wd.setCell ⟨g + 1, 0, none⟩ (.slice A n c)).setCell ⟨g + 1, 1, none⟩ (.int .i64 s.rev) = wz at *
            obtain ⟨z0, z1⟩ := RR.out
            have hno := Kv.doS_no (s := s) (ops := ops) (by rw [NE.out]; omega)
            exact bodyPost_ret (v := .tuple #[.agg #[.slice A n c, .int .i64 s.rev], .int .i64 0, .int .i64 7]) (by simp [results, Try.results14, go_sem, z0, z1]) rfl ⟨_, by rw [hno.1, hno.2, NE.out]; rfl, by rw [hno.1]; exact WO.out, .inl rfl, WB.out⟩
        · have NO : Hid (¬ Kv.Odd s o) := fun h => h1 h.1
          have OD2 : Hid (∀ u ∈ ops.take (j + 1), ¬ Kv.Odd s u) := fun u hu => by
            rw [List.take_add_one, EO.out] at hu
            rcases List.mem_append.1 hu with hu | hu
            · exact OD.out u hu
            · simp at hu; subst hu; exact NO.out
          go_wp2_with fail
          exact ⟨⟨j + 1, by omega, by go_num, OD2.out, PX.out⟩, by simp [intOf]; omega⟩
      · have E : Hid (ops.take j = ops) := List.take_of_length_le (by have := HM.out; omega)
        rw [E.out] at OD
        clear q0 q1 k0 k1 f0 f1 f2 hgl
        obtain ⟨q0, q1, k0, k1, f0, f1, f2, hgl⟩ := R1.out.on B.out
        have OD1 : Hid (∀ o ∈ ops, ¬ Kv.Odd s o) := OD.out
        have PX := Lib.hid B.out
        clear OD E B
        go_wp2_with fail
        go_loopw [11] (fun i wr => ∃ j : Nat, j ≤ m ∧ i = .int .i64 j ∧ (∀ o ∈ ops.take j, ¬ Kv.Lacks s o) ∧ Below w1.heap.size w1 wr) (fun i _ => m - (intOf i).toNat)
        case atStart => exact ⟨0, by omega, rfl, by simp, PX.out⟩
        case round =>
          obtain ⟨j, hj, rfl, hod, hbr⟩ := hrel
          have OD := Lib.hid hod
          have B := Lib.hid hbr
          clear hod hbr
          by_cases hlt : j < m
          · obtain ⟨b1, o1, rfl⟩ := HO.out.addr (by have := HM.out; omega)
            have EO : Hid (ops[j]? = some (ops[j]'(by have := HM.out; omega))) := List.getElem?_eq_getElem _
            generalize ops[j]'(by have := HM.out; omega) = o at *
            have OM : Hid (o ∈ ops) := List.mem_of_getElem? EO.out
            have CG : Hid (∀ W, Below w1.heap.size w1 W → Calls Try.prog 17 #[.agg #[.slice A n c, .int .i64 s.rev], .string o.key] W fun e w' => e = .returned (.tuple #[.string (Kv.valOf s.l o.key), .int .i64 (Kv.revOf s.l o.key)]) ∧ Below W.heap.size W w') := fun W hW => rget_any s.l s.rev n c A o.key W (HA.out.on EEn.on hW)
            have X1 : Hid (∀ W, Below w1.heap.size w1 W → W.cell? ⟨g, 0, none⟩ = some (.slice A n c) ∧ W.cell? ⟨g, 1, none⟩ = some (.int .i64 s.rev) ∧ W.cell? ⟨b1, o1 + j * 4, none⟩ = some (.string o.key)) := fun W hW => ⟨(R1.out.on hW).a0, (R1.out.on hW).a1, (HO.out.po EO.out hW).1⟩
            have RV := Kv.rev_range GS.out o.key
            obtain ⟨rv, hrv⟩ : ∃ rv, rv = Kv.revOf s.l o.key := ⟨_, rfl⟩
            rw [← hrv] at CG RV
            have HRV := Lib.hid hrv
            clear hrv
            have ODx := HO.out.poOk OM.out
            have hi1 := ODx.2.2.1
            have hi2 := ODx.2.2.2
            clear ODx q0 q1 k0 k1 f0 f1 f2 hgl
            go_upto_region 13 with fail
            refine wp_region_held_drew (S := fun W => Below w1.heap.size w1 W) (by kernel_rfl) B.out.drew (fun hS => ?_)
            refine tkYes 0 (v := ?_) rfl (by kernel_rfl) (fun _ _ _ h => h) rfl ?_ hS ?_
            rotate_left
            · intro W hW; obtain ⟨x1, x2, x3⟩ := X1.out W hW; go_simp; (try with_reducible rfl)
            simp only [Act.put, List.setIfInBounds_toArray, List.set_cons_zero, List.set_cons_succ]
            refine tkYes 1 (v := ?_) rfl (by kernel_rfl) (fun _ _ _ h => h) rfl ?_ hS ?_
            rotate_left
            · intro W hW; go_simp; (try with_reducible rfl)
            simp only [Act.put, List.setIfInBounds_toArray, List.set_cons_zero, List.set_cons_succ]
            refine tkYes 2 (v := ?_) rfl (by kernel_rfl) (fun _ _ _ h => h) rfl ?_ hS ?_
            rotate_left
            · intro W hW; go_simp; (try with_reducible rfl)
            simp only [Act.put, List.setIfInBounds_toArray, List.set_cons_zero, List.set_cons_succ]
            refine tkYes 3 (v := ?_) rfl (by kernel_rfl) (fun _ _ _ h => h) rfl ?_ hS ?_
            rotate_left
            · intro W hW; go_simp; (try with_reducible rfl)
            simp only [Act.put, List.setIfInBounds_toArray, List.set_cons_zero, List.set_cons_succ]
            refine tkYes 4 (v := ?_) rfl (by kernel_rfl) (fun _ _ _ h => h) rfl ?_ hS ?_
            rotate_left
            · intro W hW; go_simp; (try with_reducible rfl)
            simp only [Act.put, List.setIfInBounds_toArray, List.set_cons_zero, List.set_cons_succ]
            refine tkYes 5 (v := ?_) rfl (by kernel_rfl) (fun _ _ _ h => h) rfl ?_ hS ?_
            rotate_left
            · intro W hW; obtain ⟨x1, x2, x3⟩ := X1.out W hW; go_simp; (try with_reducible rfl)
            simp only [Act.put, List.setIfInBounds_toArray, List.set_cons_zero, List.set_cons_succ]
            refine rnOne 6 rfl (by kernel_rfl) rfl (fun K hK => ?_)
            go_simp
            with_reducible refine (CG.out _ hS).mono ?_
            rintro e wd ⟨rfl, hW⟩
            have hS2 := hS.trans (hW.mono hS.size)
            clear hS hW
            have hS := hS2
            clear hS2
            refine hK.out _ _ hS (fun _ => ?_)
            clear hK K
            try simp only [Act.put, List.setIfInBounds_toArray, List.set_cons_zero, List.set_cons_succ]
            refine tkYes 7 (v := ?_) rfl (by kernel_rfl) (fun _ _ _ h => h) rfl ?_ hS ?_
            rotate_left
            · intro W hW; go_simp; (try with_reducible rfl)
            simp only [Act.put, List.setIfInBounds_toArray, List.set_cons_zero, List.set_cons_succ]
            refine tkYes 8 (v := ?_) rfl (by kernel_rfl) (fun _ _ _ h => h) rfl ?_ hS ?_
            rotate_left
            · intro W hW; go_simp; (try with_reducible rfl)
            simp only [Act.put, List.setIfInBounds_toArray, List.set_cons_zero, List.set_cons_succ]
            refine tkYes 9 (v := ?_) rfl (by kernel_rfl) (fun _ _ _ h => h) rfl ?_ hS ?_
            rotate_left
            · intro W hW; go_simp; (try with_reducible rfl)
            simp only [Act.put, List.setIfInBounds_toArray, List.set_cons_zero, List.set_cons_succ]
            refine tkYes 10 (v := ?_) rfl (by kernel_rfl) (fun _ _ _ h => h) rfl ?_ hS ?_
            rotate_left
            · intro W hW; go_simp; (try with_reducible rfl)
            simp only [Act.put, List.setIfInBounds_toArray, List.set_cons_zero, List.set_cons_succ]
            refine tkYes 11 (v := ?_) rfl (by kernel_rfl) (fun _ _ _ h => h) rfl ?_ hS ?_
            rotate_left
            · intro W hW; go_simp; (try with_reducible rfl)
            simp only [Act.put, List.setIfInBounds_toArray, List.set_cons_zero, List.set_cons_succ]
            refine wpAnyH_done (by kernel_rfl) ?_ _
            have PX := Lib.hid hS
            obtain ⟨p0, p1, p2, p3⟩ := HO.out.po EO.out hS
            obtain ⟨q0, q1, k0, k1, f0, f1, f2, hgl⟩ := R1.out.on hS
            clear hS
            cases hd : o.drop with
            | true =>
              rw [hd] at p3
              by_cases h2 : rv = 0
              · have NE : Hid (Kv.doE s ops = 5) := Kv.doE_lacks RT.out OD1.out ⟨o, OM.out, hd, by rw [← HRV.out]; exact h2⟩
                have HD := Lib.hid hd
                have HR0 := Lib.hid h2
                clear hd
                subst h2
                have RR := Lib.hid ((R1.out.on PX.out).ret (.slice A n c) s.rev)
                have WB : Hid (Below w.heap.size w ((wd.setCell ⟨g + 1, 0, none⟩ (.slice A n c)).setCell ⟨g + 1, 1, none⟩ (.int .i64 s.rev))) := below_two (B1.out.trans (PX.out.mono B1.out.size)) (by have := HG.out; omega) _ _
                have WO : Hid (OwnEn ((wd.setCell ⟨g + 1, 0, none⟩ (.slice A n c)).setCell ⟨g + 1, 1, none⟩ (.int .i64 s.rev)) bs (.slice A n c) s.l) := OwnEn.any ((OA.out.below PX.out).keep fun i hi => block_two _ _ _ _ _ (by have := OL.out i hi; have := HG.out; omega))
                go_wp2_with fail
                generalize (wd.setCell ⟨g + 1, 0, none⟩ (.slice A n c)).setCell ⟨g + 1, 1, none⟩ (.int .i64 s.rev) = wz at *
                obtain ⟨z0, z1⟩ := RR.out
                have hno := Kv.doS_no (s := s) (ops := ops) (by rw [NE.out]; omega)
                exact bodyPost_ret (v := .tuple #[.agg #[.slice A n c, .int .i64 s.rev], .int .i64 0, .int .i64 5]) (by simp [results, Try.results14, go_sem, z0, z1]) rfl ⟨_, by rw [hno.1, hno.2, NE.out]; rfl, by rw [hno.1]; exact WO.out, .inl rfl, WB.out⟩
              · have NO : Hid (¬ Kv.Lacks s o) := fun h => h2 (by rw [HRV.out]; exact h.2)
                have HD := Lib.hid hd
                clear hd
                have OD2 : Hid (∀ u ∈ ops.take (j + 1), ¬ Kv.Lacks s u) := fun u hu => by
                  rw [List.take_add_one, EO.out] at hu
                  rcases List.mem_append.1 hu with hu | hu
                  · exact OD.out u hu
                  · simp at hu; subst hu; exact NO.out
                go_wp2_with fail
                exact ⟨⟨j + 1, by omega, by go_num, OD2.out, PX.out⟩, by simp [intOf]; omega⟩
            | false =>
              rw [hd] at p3
              have NO : Hid (¬ Kv.Lacks s o) := fun h => by have h1 := h.1; rw [hd] at h1; cases h1
              have HD := Lib.hid hd
              clear hd
              have OD2 : Hid (∀ u ∈ ops.take (j + 1), ¬ Kv.Lacks s u) := fun u hu => by
                rw [List.take_add_one, EO.out] at hu
                rcases List.mem_append.1 hu with hu | hu
                · exact OD.out u hu
                · simp at hu; subst hu; exact NO.out
              go_wp2_with fail
              exact ⟨⟨j + 1, by omega, by go_num, OD2.out, PX.out⟩, by simp [intOf]; omega⟩
          · have E : Hid (ops.take j = ops) := List.take_of_length_le (by have := HM.out; omega)
            rw [E.out] at OD
            clear q0 q1 k0 k1 f0 f1 f2 hgl
            obtain ⟨q0, q1, k0, k1, f0, f1, f2, hgl⟩ := R1.out.on B.out
            have OD2 : Hid (∀ o ∈ ops, ¬ Kv.Lacks s o) := OD.out
            clear OD E
            have hadd := IntWalk.i64_in (s.rev + 1) (by omega)
            have HS1 := Lib.hid ((Below.refl wr.heap.size wr).alloc (Nat.le_refl _) (.cells #[.slice A n c, .int .i64 (s.rev + 1)] 28))
            have RT0 := Lib.hid (RAt.new wr (.slice A n c) (s.rev + 1))
            have SI : Hid (i64In (s.rev + 1) ∧ 0 ≤ s.rev + 1) := ⟨⟨by omega, by omega⟩, by omega⟩
            go_wp2_with fail
            obtain ⟨g2, hg2⟩ : ∃ g2, g2 = wr.heap.size := ⟨_, rfl⟩
            obtain ⟨s1, hs1⟩ : ∃ s1, s1 = s.rev + 1 := ⟨_, rfl⟩
            rw [← hg2] at RT0 ⊢
            have BW := Lib.hid (B.out.trans (HS1.out.mono B.out.size))
            have G2 : Hid (w1.heap.size ≤ g2) := by have := B.out.size; show _ ≤ _; omega
            have OT0 := Lib.hid (OwnEn.any (w1 := wr) (OA.out.below B.out))
            have OT1 := Lib.hid (OwnEn.any (w1 := wr.alloc (.cells #[.slice A n c, .int .i64 (s.rev + 1)] 28)) (OT0.out.below HS1.out))
            clear HS1 OT0
            rw [← hs1] at RT0 BW OT1 SI ⊢
            generalize wr.alloc (.cells #[.slice A n c, .int .i64 s1] 28) = w2 at *
            have HG2 := Lib.hid hg2
            have HS1 := Lib.hid hs1
            clear hg2 hs1 hadd
            go_loopw [15] (fun i wt => ∃ (j : Nat) (v : Value), j ≤ m ∧ i = .int .i64 j ∧ RAt wt g2 v s1 ∧ OwnEn wt bs v ((ops.take j).foldl (Kv.step s1) s.l) ∧ (v = .slice A n c ∨ ∀ b, v.ownBlock = some b → w.heap.size ≤ b) ∧ v.ownBlock ≠ some g2 ∧ v.ownBlock ≠ some (g + 1) ∧ Below w1.heap.size w1 wt) (fun i _ => m - (intOf i).toNat)
            case atStart => exact ⟨0, _, by omega, rfl, RT0.out, OT1.out, .inl rfl, fun h => by have := OL.out _ h; have := B1.out.size; have := G2.out; omega, fun h => by have := OL.out _ h; have := HG.out; omega, BW.out⟩
            case round =>
              obtain ⟨j, v, hj, rfl, hrt, hot, hvf, hvn, hvg, hbt⟩ := hrel
              obtain ⟨wt, rfl⟩ : ∃ wt : World, wt = wr := ⟨_, rfl⟩
              have LZ2 : Hid (((ops.take j).foldl (Kv.step s1) s.l).length ≤ 1000) := by
                have h1 := Kv.steps_length s1 (ops.take j) s.l
                rw [List.length_take] at h1
                have := LZ.out; have := HZ.out
                show _ ≤ _; omega
              obtain ⟨A5, c5, rfl⟩ := hot.form
              have RTt := Lib.hid hrt
              have OTt := Lib.hid hot
              have VF := Lib.hid hvf
              have VN := Lib.hid hvn
              have VG := Lib.hid hvg
              have BT := Lib.hid hbt
              clear hrt hot hvf hvn hvg hbt
              have GL : Hid (g2 < wt.heap.size) := RTt.out.cells.2.2
              have GG : Hid (g + 1 < wt.heap.size) := Nat.lt_of_lt_of_le R1.out.lt BT.out.size
              have WT : Hid (w.heap.size ≤ wt.heap.size) := Nat.le_trans B1.out.size BT.out.size
              clear q0 q1 k0 k1 f0 f1 f2 hgl
              by_cases hlt : j < m
              · obtain ⟨b1, o1, rfl⟩ := HO.out.addr (by have := HM.out; omega)
                have EO : Hid (ops[j]? = some (ops[j]'(by have := HM.out; omega))) := List.getElem?_eq_getElem _
                generalize ops[j]'(by have := HM.out; omega) = o at *
                have SN := Lib.hid (Kv.steps_snoc s1 EO.out s.l)
                generalize (ops.take j).foldl (Kv.step s1) s.l = LL at *
                have X1 : Hid (∀ W, SDo w1 g2 s1 W → W.cell? ⟨b1, o1 + j * 4, none⟩ = some (.string o.key)) := fun W hW => (HO.out.po EO.out hW.1).1
                have RT2 := Lib.hid (RTt.out.on (Below.refl wt.heap.size wt).drew)
                have OT := Lib.hid (OwnEn.any (w1 := wt.drew) (OTt.out.below (Below.refl wt.heap.size wt).drew))
                have S0 : Hid (SDo w1 g2 s1 wt.drew) := SDo.of BT.out.drew RT2.out
                obtain ⟨y0, y1, _⟩ := RT2.out.cells
                have hsz : wt.drew.heap.size = wt.heap.size := rfl
                have WSZ := Lib.hid hsz
                clear hsz
                go_upto_region 21 with fail
                refine wp_region_held_drew (S := SDo w1 g2 s1) (by kernel_rfl) S0.out (fun hS => ?_)
                generalize wt.drew = wtd at *
                refine tkYes 1 (v := ?_) rfl (by kernel_rfl) (fun _ _ _ h => h) rfl ?_ hS ?_
                rotate_left
                · intro W hW; go_simp; (try with_reducible rfl)
                simp only [Act.put, List.setIfInBounds_toArray, List.set_cons_zero, List.set_cons_succ]
                refine tkYes 2 (v := ?_) rfl (by kernel_rfl) (fun _ _ _ h => h) rfl ?_ hS ?_
                rotate_left
                · intro W hW; go_simp; (try with_reducible rfl)
                simp only [Act.put, List.setIfInBounds_toArray, List.set_cons_zero, List.set_cons_succ]
                refine tkYes 3 (v := ?_) rfl (by kernel_rfl) (fun _ _ _ h => h) rfl ?_ hS ?_
                rotate_left
                · intro W hW; go_simp; (try with_reducible rfl)
                simp only [Act.put, List.setIfInBounds_toArray, List.set_cons_zero, List.set_cons_succ]
                refine tkYes 4 (v := ?_) rfl (by kernel_rfl) (fun _ _ _ h => h) rfl ?_ hS ?_
                rotate_left
                · intro W hW; go_simp; (try with_reducible rfl)
                simp only [Act.put, List.setIfInBounds_toArray, List.set_cons_zero, List.set_cons_succ]
                refine tkYes 5 (v := ?_) rfl (by kernel_rfl) (fun _ _ _ h => h) rfl ?_ hS ?_
                rotate_left
                · intro W hW; have x1 := X1.out W hW; go_simp; (try with_reducible rfl)
                simp only [Act.put, List.setIfInBounds_toArray, List.set_cons_zero, List.set_cons_succ]
                refine rnOne 0 rfl (by kernel_rfl) rfl (fun K hK => ?_)
                go_simp
                refine hK.out _ _ hS (fun _ => ?_)
                clear hK K
                refine rnOne 6 rfl (by kernel_rfl) rfl (fun K hK => ?_)
                go_simp
                with_reducible refine (rdrop_any LL s1 _ _ _ o.key _ OT.out.readE LZ2.out).mono ?_
                rintro e wd ⟨v1, rfl, ho1, hb1⟩
                obtain ⟨A6, c6, rfl⟩ := ho1.form
                have hs1 : SDo w1 g2 s1 wd := hS.on hb1
                clear hS
                have hS := hs1
                clear hs1
                have RE := Lib.hid (RT2.out.on hb1)
                have O6 := Lib.hid ho1
                have WD6 := Lib.hid hb1.size
                have F6 : Hid (∀ b, (Value.slice A6 (Kv.dropK LL o.key).length c6).ownBlock = some b → wt.heap.size ≤ b ∧ b < wd.heap.size) := fun b hb => by have := ho1.lt b hb; rw [WSZ.out] at this; exact this
                clear ho1 hb1 y0 y1
                obtain ⟨y0, y1, _⟩ := RE.out.cells
                obtain ⟨z0, z1⟩ := RE.out.cell0
                refine hK.out _ _ hS (fun _ => ?_)
                clear hK K
                try simp only [Act.put, List.setIfInBounds_toArray, List.set_cons_zero, List.set_cons_succ]
                refine rnOne 7 rfl (by kernel_rfl) rfl (fun K hK => ?_)
                go_simp
                have RS := Lib.hid (RE.out.set (.slice A6 (Kv.dropK LL o.key).length c6) s1)
                have OS : Hid (OwnEn ((wd.setCell ⟨g2, 0, none⟩ (.slice A6 (Kv.dropK LL o.key).length c6)).setCell ⟨g2, 1, none⟩ (.int .i64 s1)) bs (.slice A6 (Kv.dropK LL o.key).length c6) (Kv.dropK LL o.key)) := OwnEn.any ((O6.out.keep fun i hi => block_two _ _ _ _ _ (by have := (F6.out i hi).1; have := GL.out; omega)).lower (by have := HB.out; have := WT.out; have := WSZ.out; omega))
                have hs1 : SDo w1 g2 s1 ((wd.setCell ⟨g2, 0, none⟩ (.slice A6 (Kv.dropK LL o.key).length c6)).setCell ⟨g2, 1, none⟩ (.int .i64 s1)) := SDo.of (below_two hS.1 G2.out _ _) RS.out
                clear hS y0 y1 z0 z1
                have hS := hs1
                clear hs1
                refine hK.out _ _ hS (fun _ => ?_)
                clear hK K
                try simp only [Act.put, List.setIfInBounds_toArray, List.set_cons_zero, List.set_cons_succ]
                refine wpAnyH_done (by kernel_rfl) ?_ _
                have hwe : wt.heap.size ≤ ((wd.setCell ⟨g2, 0, none⟩ (.slice A6 (Kv.dropK LL o.key).length c6)).setCell ⟨g2, 1, none⟩ (.int .i64 s1)).heap.size := by have := WD6.out; rw [WSZ.out] at this; simpa using this
                have WE := Lib.hid hwe
                clear hwe
                generalize (wd.setCell ⟨g2, 0, none⟩ (.slice A6 (Kv.dropK LL o.key).length c6)).setCell ⟨g2, 1, none⟩ (.int .i64 s1) = we at *
                have PS := Lib.hid hS
                obtain ⟨p0, p1, p2, p3⟩ := HO.out.po EO.out hS.1
                clear hS
                cases hd : o.drop with
                | true =>
                  rw [hd] at p3
                  have SE : Hid (Kv.step s1 LL o = Kv.dropK LL o.key) := by show _ = _; unfold Kv.step; rw [if_pos hd]
                  have HD := Lib.hid hd
                  clear hd
                  rw [SE.out] at SN
                  go_wp2_with fail
                  exact ⟨⟨j + 1, _, by omega, by go_num, RS.out, by rw [SN.out]; exact OS.out, .inr fun b hb => Nat.le_trans WT.out (by have := (F6.out b hb).1; have := WSZ.out; omega), fun h => by have := (F6.out _ h).1; have := GL.out; have := WSZ.out; omega, fun h => by have := (F6.out _ h).1; have := GG.out; omega, PS.out.1⟩, by simp [intOf]; omega⟩
                | false =>
                  rw [hd] at p3
                  have SE : Hid (Kv.step s1 LL o = Kv.putK (Kv.dropK LL o.key) ⟨o.key, o.val, s1⟩) := by show _ = _; unfold Kv.step; rw [if_neg (by rw [hd]; simp)]
                  have HD := Lib.hid hd
                  clear hd
                  rw [SE.out] at SN
                  have RT3 := Lib.hid (RS.out.on (Below.refl we.heap.size we).drew)
                  have OT3 := Lib.hid (OwnEn.any (w1 := we.drew) (OS.out.below (Below.refl we.heap.size we).drew))
                  have LZ3 : Hid ((Kv.dropK LL o.key).length ≤ 1000) := Nat.le_trans (List.length_filter_le ..) LZ2.out
                  have S3 : Hid (SDo w1 g2 s1 we.drew) := PS.out.on (Below.refl we.heap.size we).drew
                  have X2 : Hid (∀ W, SDo w1 g2 s1 W → W.cell? ⟨b1, o1 + j * 4, none⟩ = some (.string o.key) ∧ W.cell? ⟨b1, o1 + j * 4 + 1, none⟩ = some (.string o.val)) := fun W hW => ⟨(HO.out.po EO.out hW.1).1, (HO.out.po EO.out hW.1).2.1⟩
                  obtain ⟨y0, y1, _⟩ := RT3.out.cells
                  have hsz : we.drew.heap.size = we.heap.size := rfl
                  have WSZ2 := Lib.hid hsz
                  clear hsz
                  go_upto_region 23 with fail
                  clear p0 p1 p2 p3
                  refine wp_region_held_drew (S := SDo w1 g2 s1) (by kernel_rfl) S3.out (fun hS => ?_)
                  generalize we.drew = wed at *
                  refine tkYes 1 (v := ?_) rfl (by kernel_rfl) (fun _ _ _ h => h) rfl ?_ hS ?_
                  rotate_left
                  · intro W hW; go_simp; (try with_reducible rfl)
                  simp only [Act.put, List.setIfInBounds_toArray, List.set_cons_zero, List.set_cons_succ]
                  refine tkYes 2 (v := ?_) rfl (by kernel_rfl) (fun _ _ _ h => h) rfl ?_ hS ?_
                  rotate_left
                  · intro W hW; go_simp; (try with_reducible rfl)
                  simp only [Act.put, List.setIfInBounds_toArray, List.set_cons_zero, List.set_cons_succ]
                  refine tkYes 3 (v := ?_) rfl (by kernel_rfl) (fun _ _ _ h => h) rfl ?_ hS ?_
                  rotate_left
                  · intro W hW; go_simp; (try with_reducible rfl)
                  simp only [Act.put, List.setIfInBounds_toArray, List.set_cons_zero, List.set_cons_succ]
                  refine tkYes 4 (v := ?_) rfl (by kernel_rfl) (fun _ _ _ h => h) rfl ?_ hS ?_
                  rotate_left
                  · intro W hW; go_simp; (try with_reducible rfl)
                  simp only [Act.put, List.setIfInBounds_toArray, List.set_cons_zero, List.set_cons_succ]
                  refine tkYes 5 (v := ?_) rfl (by kernel_rfl) (fun _ _ _ h => h) rfl ?_ hS ?_
                  rotate_left
                  · intro W hW; have x1 := (X2.out W hW).1; go_simp; (try with_reducible rfl)
                  simp only [Act.put, List.setIfInBounds_toArray, List.set_cons_zero, List.set_cons_succ]
                  refine tkYes 6 (v := ?_) rfl (by kernel_rfl) (fun _ _ _ h => h) rfl ?_ hS ?_
                  rotate_left
                  · intro W hW; go_simp; (try with_reducible rfl)
                  simp only [Act.put, List.setIfInBounds_toArray, List.set_cons_zero, List.set_cons_succ]
                  refine tkYes 7 (v := ?_) rfl (by kernel_rfl) (fun _ _ _ h => h) rfl ?_ hS ?_
                  rotate_left
                  · intro W hW; go_simp; (try with_reducible rfl)
                  simp only [Act.put, List.setIfInBounds_toArray, List.set_cons_zero, List.set_cons_succ]
                  refine tkYes 8 (v := ?_) rfl (by kernel_rfl) (fun _ _ _ h => h) rfl ?_ hS ?_
                  rotate_left
                  · intro W hW; go_simp; (try with_reducible rfl)
                  simp only [Act.put, List.setIfInBounds_toArray, List.set_cons_zero, List.set_cons_succ]
                  refine tkYes 9 (v := ?_) rfl (by kernel_rfl) (fun _ _ _ h => h) rfl ?_ hS ?_
                  rotate_left
                  · intro W hW; go_simp; (try with_reducible rfl)
                  simp only [Act.put, List.setIfInBounds_toArray, List.set_cons_zero, List.set_cons_succ]
                  refine tkYes 10 (v := ?_) rfl (by kernel_rfl) (fun _ _ _ h => h) rfl ?_ hS ?_
                  rotate_left
                  · intro W hW; have x1 := (X2.out W hW).2; go_simp; (try with_reducible rfl)
                  simp only [Act.put, List.setIfInBounds_toArray, List.set_cons_zero, List.set_cons_succ]
                  refine tkYes 11 (v := ?_) rfl (by kernel_rfl) (fun _ _ _ h => h) rfl ?_ hS ?_
                  rotate_left
                  · intro W hW; go_simp; (try with_reducible rfl)
                  simp only [Act.put, List.setIfInBounds_toArray, List.set_cons_zero, List.set_cons_succ]
                  refine tkYes 12 (v := ?_) rfl (by kernel_rfl) (fun _ _ _ h => h) rfl ?_ hS ?_
                  rotate_left
                  · intro W hW; have x1 := hW.2.2; go_simp; (try with_reducible rfl)
                  simp only [Act.put, List.setIfInBounds_toArray, List.set_cons_zero, List.set_cons_succ]
                  refine tkYes 13 (v := ?_) rfl (by kernel_rfl) (fun _ _ _ h => h) rfl ?_ hS ?_
                  rotate_left
                  · intro W hW; go_simp; (try with_reducible rfl)
                  simp only [Act.put, List.setIfInBounds_toArray, List.set_cons_zero, List.set_cons_succ]
                  refine rnOne 0 rfl (by kernel_rfl) rfl (fun K hK => ?_)
                  go_simp
                  refine hK.out _ _ hS (fun _ => ?_)
                  clear hK K
                  refine rnOne 14 rfl (by kernel_rfl) rfl (fun K hK => ?_)
                  go_simp
                  with_reducible refine (rput_at (Kv.dropK LL o.key) s1 _ _ _ o.key o.val s1 _ OT3.out.readE LZ3.out).mono ?_
                  rintro e wf ⟨v2, rfl, ho2, hb2⟩
                  obtain ⟨A7, c7, rfl⟩ := ho2.form
                  have hs1 : SDo w1 g2 s1 wf := hS.on hb2
                  clear hS
                  have hS := hs1
                  clear hs1
                  have RE2 := Lib.hid (RT3.out.on hb2)
                  have O7 := Lib.hid ho2
                  have F7 : Hid (∀ b, (Value.slice A7 (Kv.putK (Kv.dropK LL o.key) ⟨o.key, o.val, s1⟩).length c7).ownBlock = some b → wt.heap.size ≤ b ∧ b < wf.heap.size) := fun b hb => by have h1 := ho2.lt b hb; rw [WSZ2.out] at h1; have := WE.out; exact ⟨by omega, h1.2⟩
                  clear ho2 hb2 y0 y1
                  obtain ⟨y0, y1, _⟩ := RE2.out.cells
                  obtain ⟨z0, z1⟩ := RE2.out.cell0
                  refine hK.out _ _ hS (fun _ => ?_)
                  clear hK K
                  try simp only [Act.put, List.setIfInBounds_toArray, List.set_cons_zero, List.set_cons_succ]
                  refine rnOne 15 rfl (by kernel_rfl) rfl (fun K hK => ?_)
                  go_simp
                  have RS2 := Lib.hid (RE2.out.set (.slice A7 (Kv.putK (Kv.dropK LL o.key) ⟨o.key, o.val, s1⟩).length c7) s1)
                  have OS2 : Hid (OwnEn ((wf.setCell ⟨g2, 0, none⟩ (.slice A7 (Kv.putK (Kv.dropK LL o.key) ⟨o.key, o.val, s1⟩).length c7)).setCell ⟨g2, 1, none⟩ (.int .i64 s1)) bs (.slice A7 (Kv.putK (Kv.dropK LL o.key) ⟨o.key, o.val, s1⟩).length c7) (Kv.putK (Kv.dropK LL o.key) ⟨o.key, o.val, s1⟩)) := OwnEn.any ((O7.out.keep fun i hi => block_two _ _ _ _ _ (by have := (F7.out i hi).1; have := GL.out; omega)).lower (by have := HB.out; have := WT.out; have := WSZ2.out; have := WE.out; omega))
                  have hs1 : SDo w1 g2 s1 ((wf.setCell ⟨g2, 0, none⟩ (.slice A7 (Kv.putK (Kv.dropK LL o.key) ⟨o.key, o.val, s1⟩).length c7)).setCell ⟨g2, 1, none⟩ (.int .i64 s1)) := SDo.of (below_two hS.1 G2.out _ _) RS2.out
                  clear hS y0 y1 z0 z1
                  have hS := hs1
                  clear hs1
                  refine hK.out _ _ hS (fun _ => ?_)
                  clear hK K
                  try simp only [Act.put, List.setIfInBounds_toArray, List.set_cons_zero, List.set_cons_succ]
                  refine wpAnyH_done (by kernel_rfl) ?_ _
                  generalize (wf.setCell ⟨g2, 0, none⟩ (.slice A7 (Kv.putK (Kv.dropK LL o.key) ⟨o.key, o.val, s1⟩).length c7)).setCell ⟨g2, 1, none⟩ (.int .i64 s1) = wg at *
                  have PS2 := Lib.hid hS
                  clear hS
                  go_wp2_with fail
                  exact ⟨⟨j + 1, _, by omega, by go_num, RS2.out, by rw [SN.out]; exact OS2.out, .inr fun b hb => Nat.le_trans WT.out (F7.out b hb).1, fun h => by have := (F7.out _ h).1; have := GL.out; omega, fun h => by have := (F7.out _ h).1; have := GG.out; omega, PS2.out.1⟩, by simp [intOf]; omega⟩
              · have E : Hid (ops.take j = ops) := List.take_of_length_le (by have := HM.out; omega)
                rw [E.out] at RTt OTt VF VN VG LZ2
                have AF : Hid (Kv.after s ops = ⟨ops.foldl (Kv.step s1) s.l, s1⟩) := by show _ = _; unfold Kv.after; rw [HS1.out]
                generalize ops.foldl (Kv.step s1) s.l = LL at *
                clear E
                obtain ⟨y0, y1, _⟩ := RTt.out.cells
                obtain ⟨q0, q1, k0, k1, f0, f1, f2, hgl⟩ := R1.out.on BT.out
                by_cases hfull : 64 < LL.length
                · have NE : Hid (Kv.doE s ops = 4) := Kv.doE_full RT.out OD1.out OD2.out (by rw [AF.out]; exact hfull)
                  obtain ⟨wd, rfl⟩ : ∃ wd : World, wd = wt := ⟨_, rfl⟩
                  have RR := Lib.hid ((R1.out.on BT.out).ret (.slice A n c) s.rev)
                  have WB : Hid (Below w.heap.size w ((wd.setCell ⟨g + 1, 0, none⟩ (.slice A n c)).setCell ⟨g + 1, 1, none⟩ (.int .i64 s.rev))) := below_two (B1.out.trans (BT.out.mono B1.out.size)) (by have := HG.out; omega) _ _
                  have WO : Hid (OwnEn ((wd.setCell ⟨g + 1, 0, none⟩ (.slice A n c)).setCell ⟨g + 1, 1, none⟩ (.int .i64 s.rev)) bs (.slice A n c) s.l) := OwnEn.any ((OA.out.below BT.out).keep fun i hi => block_two _ _ _ _ _ (by have := OL.out i hi; have := HG.out; omega))
                  go_wp2_with fail
                  generalize (wd.setCell ⟨g + 1, 0, none⟩ (.slice A n c)).setCell ⟨g + 1, 1, none⟩ (.int .i64 s.rev) = wz at *
                  obtain ⟨z0, z1⟩ := RR.out
                  have hno := Kv.doS_no (s := s) (ops := ops) (by rw [NE.out]; omega)
                  exact bodyPost_ret (v := .tuple #[.agg #[.slice A n c, .int .i64 s.rev], .int .i64 0, .int .i64 4]) (by simp [results, Try.results14, go_sem, z0, z1]) rfl ⟨_, by rw [hno.1, hno.2, NE.out]; rfl, by rw [hno.1]; exact WO.out, .inl rfl, WB.out⟩
                · have NE : Hid (Kv.doE s ops = 0) := Kv.doE_ok RT.out OD1.out OD2.out (by rw [AF.out]; exact hfull)
                  have RR : Hid (((wt.setCell ⟨g + 1, 0, none⟩ (.slice A5 LL.length c5)).setCell ⟨g + 1, 1, none⟩ (.int .i64 s1)).drew.cell? ⟨g + 1, 0, none⟩ = some (.slice A5 LL.length c5) ∧ ((wt.setCell ⟨g + 1, 0, none⟩ (.slice A5 LL.length c5)).setCell ⟨g + 1, 1, none⟩ (.int .i64 s1)).drew.cell? ⟨g + 1, 1, none⟩ = some (.int .i64 s1)) := (R1.out.on BT.out).ret (.slice A5 LL.length c5) s1
                  have WB : Hid (Below w.heap.size w ((wt.setCell ⟨g + 1, 0, none⟩ (.slice A5 LL.length c5)).setCell ⟨g + 1, 1, none⟩ (.int .i64 s1)).drew) := (below_two (B1.out.trans (BT.out.mono B1.out.size)) (by have := HG.out; omega) _ _).drew
                  have WO : Hid (OwnEn ((wt.setCell ⟨g + 1, 0, none⟩ (.slice A5 LL.length c5)).setCell ⟨g + 1, 1, none⟩ (.int .i64 s1)).drew bs (.slice A5 LL.length c5) LL) := OwnEn.any ((OwnEn.any (w1 := ((wt.setCell ⟨g + 1, 0, none⟩ (.slice A5 LL.length c5)).setCell ⟨g + 1, 1, none⟩ (.int .i64 s1))) (OTt.out.keep fun i hi => block_two _ _ _ _ _ (fun e => VG.out (by rw [hi, e])))).below (Below.refl ((wt.setCell ⟨g + 1, 0, none⟩ (.slice A5 LL.length c5)).setCell ⟨g + 1, 1, none⟩ (.int .i64 s1)).heap.size ((wt.setCell ⟨g + 1, 0, none⟩ (.slice A5 LL.length c5)).setCell ⟨g + 1, 1, none⟩ (.int .i64 s1))).drew)
                  have hne1 : ¬ g + 1 = g2 := by have := R1.out.lt; have := G2.out; omega
                  have hne2 : ¬ g2 = g + 1 := by have := R1.out.lt; have := G2.out; omega
                  go_wp2_with fail
                  go_region
                  go_wp2_with fail
                  generalize ((wt.setCell ⟨g + 1, 0, none⟩ (.slice A5 LL.length c5)).setCell ⟨g + 1, 1, none⟩ (.int .i64 s1)).drew = wz at *
                  obtain ⟨z0, z1⟩ := RR.out
                  have hno := Kv.doS_ok NE.out
                  have hs1 := HS1.out
                  exact bodyPost_ret (v := .tuple #[.agg #[.slice A5 LL.length c5, .int .i64 s1], .int .i64 s1, .int .i64 0]) (by simp [results, Try.results14, go_sem, z0, z1]) rfl ⟨_, by rw [hno.1, hno.2, NE.out, AF.out, ← hs1]; rfl, by rw [hno.1, AF.out]; exact WO.out, VF.out, WB.out⟩
end Go.Proofs.Ytmkfiiheeplmgaa
