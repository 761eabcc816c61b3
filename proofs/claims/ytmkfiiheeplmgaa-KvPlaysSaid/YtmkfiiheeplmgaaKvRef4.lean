/-
  The document's package of layer 8: put. No condition.
-/
import Derived.Test.YtmkfiiheeplmgaaKvRef3
import Derived.Laws.Cover1
namespace Go.Proofs.Ytmkfiiheeplmgaa
open Go.RowKit Go.Deep

/-- A store by value, an entry, the store to be answered. -/
structure RThree (w : World) (g : Nat) (v u : Value) (r s : Int) (e : Kv.En) : Prop where
  a0 : w.cell? ⟨g, 0, none⟩ = some v
  a1 : w.cell? ⟨g, 1, none⟩ = some (.int .i64 r)
  e0 : w.cell? ⟨g + 1, 0, none⟩ = some (.string e.key)
  e1 : w.cell? ⟨g + 1, 1, none⟩ = some (.string e.val)
  e2 : w.cell? ⟨g + 1, 2, none⟩ = some (.int .i64 e.rev)
  b0 : w.cell? ⟨g + 1 + 1, 0, none⟩ = some u
  b1 : w.cell? ⟨g + 1 + 1, 1, none⟩ = some (.int .i64 s)
  f0 : w.frozen? ⟨g, 0, none⟩ = false
  f1 : w.frozen? ⟨g + 1 + 1, 0, none⟩ = false
  f2 : w.frozen? ⟨g + 1 + 1, 1, none⟩ = false
  lt : g + 1 + 1 < w.heap.size
theorem RThree.new (w : World) (v : Value) (r : Int) (e : Kv.En) : RThree (((w.alloc (.cells #[v, .int .i64 r] 28)).alloc (.cells #[.string e.key, .string e.val, .int .i64 e.rev] 65)).alloc (.cells #[.slice none 0 0, .int .i64 0] 28)) w.heap.size v (.slice none 0 0) r 0 e := by
  have h1 := heap_alloc_new w (.cells #[v, .int .i64 r] 28)
  have h2 := heap_alloc_new (w.alloc (.cells #[v, .int .i64 r] 28)) (.cells #[.string e.key, .string e.val, .int .i64 e.rev] 65)
  have hsz : (w.alloc (.cells #[v, .int .i64 r] 28)).heap.size = w.heap.size + 1 := by simp
  have h3 := blk_on h1 ((Below.refl _ _).alloc (Nat.le_refl (w.alloc (.cells #[v, .int .i64 r] 28)).heap.size) (.cells #[.string e.key, .string e.val, .int .i64 e.rev] 65))
  rw [hsz] at h2
  generalize w.alloc (.cells #[v, .int .i64 r] 28) = w1 at *
  have h4 := heap_alloc_new (w1.alloc (.cells #[.string e.key, .string e.val, .int .i64 e.rev] 65)) (.cells #[.slice none 0 0, .int .i64 0] 28)
  have hsz2 : (w1.alloc (.cells #[.string e.key, .string e.val, .int .i64 e.rev] 65)).heap.size = w.heap.size + 1 + 1 := by simp [hsz]
  have hb := (Below.refl _ _).alloc (Nat.le_refl (w1.alloc (.cells #[.string e.key, .string e.val, .int .i64 e.rev] 65)).heap.size) (.cells #[.slice none 0 0, .int .i64 0] 28)
  have h5 := blk_on h3 hb
  have h6 := blk_on h2 hb
  rw [hsz2] at h4
  refine ⟨?_, ?_, ?_, ?_, ?_, ?_, ?_, ?_, ?_, ?_, by simp [hsz]⟩
  · rw [cell_of_row _ _ 0 _ _ _ h5]; rfl
  · rw [cell_of_row _ _ 1 _ _ _ h5]; rfl
  · rw [cell_of_row _ _ 0 _ _ _ h6]; rfl
  · rw [cell_of_row _ _ 1 _ _ _ h6]; rfl
  · rw [cell_of_row _ _ 2 _ _ _ h6]; rfl
  · rw [cell_of_row _ _ 0 _ _ _ h4]; rfl
  · rw [cell_of_row _ _ 1 _ _ _ h4]; rfl
  · exact frozen_of_row _ _ _ _ _ h5
  · exact frozen_of_row _ _ _ _ _ h4
  · exact frozen_of_row _ _ _ _ _ h4
theorem RThree.on {w w' : World} {g : Nat} {v u : Value} {r s : Int} {e : Kv.En} (h : RThree w g v u r s e) (hb : Below w.heap.size w w') : RThree w' g v u r s e := by
  have h1 : g < w.heap.size := by have := h.lt; omega
  have h2 : g + 1 < w.heap.size := by have := h.lt; omega
  exact ⟨(hb.cell (p := ⟨g, 0, none⟩) h1).trans h.a0, (hb.cell (p := ⟨g, 1, none⟩) h1).trans h.a1, (hb.cell (p := ⟨g + 1, 0, none⟩) h2).trans h.e0, (hb.cell (p := ⟨g + 1, 1, none⟩) h2).trans h.e1, (hb.cell (p := ⟨g + 1, 2, none⟩) h2).trans h.e2,
    (hb.cell (p := ⟨g + 1 + 1, 0, none⟩) h.lt).trans h.b0, (hb.cell (p := ⟨g + 1 + 1, 1, none⟩) h.lt).trans h.b1,
    (hb.frozen (p := ⟨g, 0, none⟩) h1).trans h.f0, (hb.frozen (p := ⟨g + 1 + 1, 0, none⟩) h.lt).trans h.f1, (hb.frozen (p := ⟨g + 1 + 1, 1, none⟩) h.lt).trans h.f2, Nat.lt_of_lt_of_le h.lt hb.size⟩
def RThree.fin (wr : World) (g : Nat) (v : Value) (r : Int) : World := ((wr.setCell ⟨g, 0, none⟩ v).setCell ⟨g + 1 + 1, 0, none⟩ v).setCell ⟨g + 1 + 1, 1, none⟩ (.int .i64 r)
theorem RThree.grown (wr : World) (g : Nat) (v : Value) (r : Int) (i : Nat) (h0 : i ≠ g) (h1 : i ≠ g + 1 + 1) : (RThree.fin wr g v r).heap[i]? = wr.heap[i]? := by
  unfold RThree.fin
  rw [heap_setCell_other _ _ _ _ (by simpa using h1), heap_setCell_other _ _ _ _ (by simpa using h1), heap_setCell_other _ _ _ _ (by simpa using h0)]
theorem RThree.below {w wr : World} {B g : Nat} (h : Below B w wr) (hB : B ≤ g) (v : Value) (r : Int) : Below B w (RThree.fin wr g v r) :=
  ((h.setCell (p := ⟨g, 0, none⟩) hB v).setCell (p := ⟨g + 1 + 1, 0, none⟩) (by simp; omega) v).setCell (p := ⟨g + 1 + 1, 1, none⟩) (by simp; omega) _
theorem RThree.read {wr : World} {g : Nat} {v u : Value} {r s : Int} {e : Kv.En} (h : RThree wr g v u r s e) (v' : Value) (r' : Int) : (RThree.fin wr g v' r').cell? ⟨g + 1 + 1, 0, none⟩ = some v' ∧ (RThree.fin wr g v' r').cell? ⟨g + 1 + 1, 1, none⟩ = some (.int .i64 r') := by
  have h0 := h.b0
  have h1 := h.b1
  have e1 : (wr.setCell ⟨g, 0, none⟩ v').cell? ⟨g + 1 + 1, 0, none⟩ = some u := (World.cell?_setCell_other _ _ _ _ (by simp)).trans h0
  have e2 : (wr.setCell ⟨g, 0, none⟩ v').cell? ⟨g + 1 + 1, 1, none⟩ = some (.int .i64 s) := (World.cell?_setCell_other _ _ _ _ (by simp)).trans h1
  have e3 : ((wr.setCell ⟨g, 0, none⟩ v').setCell ⟨g + 1 + 1, 0, none⟩ v').cell? ⟨g + 1 + 1, 1, none⟩ = some (.int .i64 s) := (World.cell?_setCell_other _ _ _ _ (by simp)).trans e2
  exact ⟨(World.cell?_setCell_other _ _ _ _ (by simp)).trans (World.cell?_setCell_same _ _ _ e1), World.cell?_setCell_same _ _ _ e3⟩
set_option maxHeartbeats 3200000 in
theorem rput_any (l : List Kv.En) (r : Int) (n c : Nat) (A : Option Addr) (e : Kv.En) (w : World) (h : SlE w A n c l) (hz : l.length ≤ 1000) :
    Calls Try.prog 29 #[.agg #[.slice A n c, .int .i64 r], .agg #[.string e.key, .string e.val, .int .i64 e.rev]] w (RPost (Kv.putK l e) r w) := by
  have hn := h.len
  have hmx := h.max
  have hcp := h.cap
  unfold maxLen at hmx
  have B1 := Lib.hid ((((Below.refl w.heap.size w).alloc (Nat.le_refl _) (.cells #[.slice A n c, .int .i64 r] 28)).alloc (by simp) (.cells #[.string e.key, .string e.val, .int .i64 e.rev] 65)).alloc (by simp; omega) (.cells #[.slice none 0 0, .int .i64 0] 28))
  have R1 := Lib.hid (RThree.new w (.slice A n c) r e)
  have HA := Lib.hid (h.on EEn.on B1.out)
  have HN := Lib.hid hn
  have HZ := Lib.hid hz
  clear h hn hz
  go_enter Try.func29, Try.ntmps29
  go_wp2_with fail
  obtain ⟨g, hg⟩ : ∃ g, g = w.heap.size := ⟨_, rfl⟩
  rw [← hg] at R1 ⊢
  generalize ((w.alloc (.cells #[.slice A n c, .int .i64 r] 28)).alloc (.cells #[.string e.key, .string e.val, .int .i64 e.rev] 65)).alloc (.cells #[.slice none 0 0, .int .i64 0] 28) = w1 at *
  have HG := Lib.hid hg
  clear hg
  go_loopw [5, 6, 7] (fun v d i wr => ∃ (j : Nat) (x : Bool), j ≤ n ∧ i = .int .i64 j ∧ d = .bool x ∧ (x = true ↔ ∃ y ∈ l.take j, Kv.lt e.key y.key) ∧ OwnEn wr w1.heap.size v (if x then Kv.putK (l.take j) e else l.take j) ∧ Below w1.heap.size w1 wr) (fun _ _ i _ => n - (intOf i).toNat)
  case atStart => exact ⟨0, false, by omega, rfl, rfl, by simp, OwnR.none_ _ _ _ _, Below.refl _ _⟩
  case round =>
    obtain ⟨j, x, hj, rfl, rfl, hx, ho, hbr⟩ := hrel
    have O := Lib.hid ho
    have B := Lib.hid hbr
    have X := Lib.hid hx
    have R2 := Lib.hid (R1.out.on hbr)
    obtain ⟨q0, q1, k0, k1, k2, c0, c1, f0, f1, f2, hgl⟩ := R1.out.on hbr
    clear ho hbr hx
    by_cases hlt : j < n
    · obtain ⟨b1, o1, rfl⟩ := HA.out.addr (by have := HN.out; omega)
      have EA : Hid (l[j]? = some (l[j]'(by have := HN.out; omega))) := List.getElem?_eq_getElem _
      generalize l[j]'(by have := HN.out; omega) = y at *
      obtain ⟨p0, p1, p2⟩ := HA.out.en EA.out B.out
      have ST : Hid (l.take (j + 1) = l.take j ++ [y]) := by
        show _ = _
        rw [List.take_add_one, EA.out]; rfl
      have LT : Hid ((l.take j).length ≤ 1000) := by show _ ≤ _; rw [List.length_take]; have := HZ.out; omega
      have BD := Lib.hid B.out.drew
      have RD := Lib.hid (R1.out.on BD.out)
      have HDE := HA.out.en EA.out BD.out
      have PD := Lib.hid HDE
      clear HDE
      cases x with
      | true =>
        have ST2 : Hid (Kv.putK (l.take (j + 1)) e = Kv.putK (l.take j) e ++ [y]) := by
          show _ = _
          rw [ST.out]; exact Kv.putK_there y (X.out.1 (by first | rfl | trivial))
        have LN : Hid ((Kv.putK (l.take j) e).length ≤ 1000000) := by show _ ≤ _; rw [Kv.putK_length]; have := LT.out; omega
        have O1 : Hid (OwnEn wr w1.heap.size u5 (Kv.putK (l.take j) e)) := O.out
        have OD := Lib.hid (OwnEn.any (w1 := wr.drew) (O1.out.below (Below.refl wr.heap.size wr).drew))
        clear O O1
        go_wp2_with fail
        go_region
        clear q0 q1 k0 k1 k2 c0 c1 f0 f1 f2 hgl p0 p1 p2
        obtain ⟨q0, q1, k0, k1, k2, c0, c1, f0, f1, f2, hgl⟩ := RD.out
        obtain ⟨p0, p1, p2⟩ := PD.out
        generalize wr.drew = wd at *
        go_wp2_with (at_builtin; refine wpList_append_en rfl (.tmp 32) (.tmp 38) rfl w1.heap.size _ _ rfl OD.out y rfl LN.out BD.out.size ?_; intro v3 w3 ho3 hb3 hg3; have O3 := Lib.hid ho3; have B3 := Lib.hid (BD.out.trans (hb3.mono (Nat.le_refl _))); clear ho3 hb3 hg3)
        refine ⟨⟨j + 1, true, by omega, by go_num, rfl, ?_, ?_, B3.out⟩, by simp [intOf]; omega⟩
        · simp only [true_iff]
          obtain ⟨z, hz, h2⟩ := X.out.1 (by first | rfl | trivial)
          exact ⟨z, by rw [ST.out]; exact List.mem_append_left _ hz, h2⟩
        · rw [if_pos rfl, ST2.out]; exact O3.out
      | false =>
        have NL : Hid (∀ z ∈ l.take j, ¬ Kv.lt e.key z.key) := fun z hz h2 => by have := X.out.2 ⟨z, hz, h2⟩; cases this
        have O1 : Hid (OwnEn wr w1.heap.size u5 (l.take j)) := O.out
        have OD := Lib.hid (OwnEn.any (w1 := wr.drew) (O1.out.below (Below.refl wr.heap.size wr).drew))
        clear O O1
        by_cases hgt : Kv.lt e.key y.key
        · have ht := (Kv.gt_eq y.key e.key).2 hgt
          have ST2 : Hid (Kv.putK (l.take (j + 1)) e = l.take j ++ [e] ++ [y]) := by
            show _ = _
            rw [ST.out]; exact Kv.putK_here NL.out hgt
          have LN1 : Hid ((l.take j).length ≤ 1000000) := by show _ ≤ _; have := LT.out; omega
          have LN2 : Hid ((l.take j ++ [e]).length ≤ 1000000) := by show _ ≤ _; have := LT.out; simp only [List.length_append, List.length_singleton]; omega
          go_wp2_with fail
          go_region
          clear q0 q1 k0 k1 k2 c0 c1 f0 f1 f2 hgl p0 p1 p2
          obtain ⟨q0, q1, k0, k1, k2, c0, c1, f0, f1, f2, hgl⟩ := RD.out
          obtain ⟨p0, p1, p2⟩ := PD.out
          generalize wr.drew = wd at *
          go_wp2_with (at_builtin; first
            | (refine wpList_append_en rfl (.tmp 28) (.tmp 30) rfl w1.heap.size _ _ rfl OD.out e rfl LN1.out BD.out.size ?_; intro v3 w3 ho3 hb3 hg3; have O3 := Lib.hid ho3; have B3 := Lib.hid (BD.out.trans (hb3.mono (Nat.le_refl _))); clear ho3 hb3 hg3; clear q0 q1 k0 k1 k2 c0 c1 f0 f1 f2 hgl p0 p1 p2; obtain ⟨q0, q1, k0, k1, k2, c0, c1, f0, f1, f2, hgl⟩ := R1.out.on B3.out; obtain ⟨p0, p1, p2⟩ := HA.out.en EA.out B3.out)
            | (refine wpList_append_en rfl (.tmp 32) (.tmp 38) rfl w1.heap.size _ _ rfl O3.out y rfl LN2.out B3.out.size ?_; intro v4 w4 ho4 hb4 hg4; have O4 := Lib.hid ho4; have B4 := Lib.hid (B3.out.trans (hb4.mono (Nat.le_refl _))); clear ho4 hb4 hg4))
          refine ⟨⟨j + 1, true, by omega, by go_num, rfl, ?_, ?_, B4.out⟩, by simp [intOf]; omega⟩
          · simp only [true_iff]
            exact ⟨y, by rw [ST.out]; simp, hgt⟩
          · rw [if_pos rfl, ST2.out]; exact O4.out
        · have ht : (!(Op.bytesLess y.key.toList e.key.toList || y.key.toList == e.key.toList)) = false := by rw [← Bool.not_eq_true, Kv.gt_eq]; exact hgt
          have LN1 : Hid ((l.take j).length ≤ 1000000) := by show _ ≤ _; have := LT.out; omega
          go_wp2_with fail
          go_region
          clear q0 q1 k0 k1 k2 c0 c1 f0 f1 f2 hgl p0 p1 p2
          obtain ⟨q0, q1, k0, k1, k2, c0, c1, f0, f1, f2, hgl⟩ := RD.out
          obtain ⟨p0, p1, p2⟩ := PD.out
          generalize wr.drew = wd at *
          go_wp2_with (at_builtin; refine wpList_append_en rfl (.tmp 32) (.tmp 38) rfl w1.heap.size _ _ rfl OD.out y rfl LN1.out BD.out.size ?_; intro v3 w3 ho3 hb3 hg3; have O3 := Lib.hid ho3; have B3 := Lib.hid (BD.out.trans (hb3.mono (Nat.le_refl _))); clear ho3 hb3 hg3)
          refine ⟨⟨j + 1, false, by omega, by go_num, rfl, ?_, ?_, B3.out⟩, by simp [intOf]; omega⟩
          · simp only [Bool.false_eq_true, false_iff]
            rintro ⟨z, hz, h2⟩
            rw [ST.out] at hz
            rcases List.mem_append.1 hz with hz | hz
            · exact NL.out z hz h2
            · simp at hz; subst hz; exact hgt h2
          · rw [if_neg (by simp), ST.out]; exact O3.out
    · have E : Hid (l.take j = l) := List.take_of_length_le (by have := HN.out; omega)
      rw [E.out] at O X
      cases x with
      | true =>
        have O1 : Hid (OwnEn wr w1.heap.size u5 (Kv.putK l e)) := O.out
        clear O
        obtain ⟨A3, c3, rfl⟩ := O1.out.form
        have HG2 := HG.out
        have RDd := R2.out.read (.slice A3 (Kv.putK l e).length c3) r
        have W1 := Lib.hid (RThree.below (B1.out.trans (B.out.mono B1.out.size)) (Nat.le_of_eq HG2.symm) (.slice A3 (Kv.putK l e).length c3) r)
        have OF := Lib.hid (O1.out.keep (w' := RThree.fin wr g (.slice A3 (Kv.putK l e).length c3) r) fun i hi => RThree.grown _ _ _ _ i (by have := (O1.out.lt i hi).1; have := R1.out.lt; omega) (by have := (O1.out.lt i hi).1; have := R1.out.lt; omega))
        have B1s := Lib.hid B1.out.size
        clear HG2
        go_wp2_with fail
        have ev : ((wr.setCell ⟨g, 0, none⟩ (.slice A3 (Kv.putK l e).length c3)).setCell ⟨g + 1 + 1, 0, none⟩ (.slice A3 (Kv.putK l e).length c3)).setCell ⟨g + 1 + 1, 1, none⟩ (.int .i64 r) = RThree.fin wr g (.slice A3 (Kv.putK l e).length c3) r := rfl
        rw [ev]
        generalize RThree.fin wr g (.slice A3 (Kv.putK l e).length c3) r = wz at *
        obtain ⟨z0, z1⟩ := RDd
        exact bodyPost_ret (v := .agg #[.slice A3 (Kv.putK l e).length c3, .int .i64 r]) (by simp [results, Try.results29, go_sem, z0, z1]) rfl ⟨_, rfl, OwnEn.any (OF.out.lower B1s.out), W1.out⟩
      | false =>
        have EP : Hid (Kv.putK l e = l ++ [e]) := Kv.putK_low fun z hz h2 => by have := X.out.2 ⟨z, hz, h2⟩; cases this
        have O1 : Hid (OwnEn wr w1.heap.size u5 l) := O.out
        have LN1 : Hid (l.length ≤ 1000000) := by show _ ≤ _; have := HZ.out; omega
        clear O
        go_wp2_with (at_builtin; refine wpList_append_en rfl (.tmp 42) (.tmp 44) rfl w1.heap.size _ _ rfl O1.out e rfl LN1.out B.out.size ?_; intro v3 w3 ho3 hb3 hg3; obtain ⟨A3, c3, rfl⟩ := ho3.form; have O3 := Lib.hid ho3; have B3 := Lib.hid (B.out.trans (hb3.mono (Nat.le_refl _))); clear ho3 hb3 hg3; clear q0 q1 k0 k1 k2 c0 c1 f0 f1 f2 hgl; have R3 := Lib.hid (R1.out.on B3.out); obtain ⟨q0, q1, k0, k1, k2, c0, c1, f0, f1, f2, hgl⟩ := R1.out.on B3.out)
        have O4 : Hid (OwnEn w3 w1.heap.size (.slice A3 (l.length + 1) c3) (l ++ [e])) := by
          have := O3.out
          rw [List.length_append, List.length_singleton] at this
          exact this
        have HG2 := HG.out
        have RDd := R3.out.read (.slice A3 (l.length + 1) c3) r
        have W1 := Lib.hid (RThree.below (B1.out.trans (B3.out.mono B1.out.size)) (Nat.le_of_eq HG2.symm) (.slice A3 (l.length + 1) c3) r)
        have OF := Lib.hid (O4.out.keep (w' := RThree.fin w3 g (.slice A3 (l.length + 1) c3) r) fun i hi => RThree.grown _ _ _ _ i (by have := (O4.out.lt i hi).1; have := R1.out.lt; omega) (by have := (O4.out.lt i hi).1; have := R1.out.lt; omega))
        have B1s := Lib.hid B1.out.size
        clear HG2
        have ev : ((w3.setCell ⟨g, 0, none⟩ (.slice A3 (l.length + 1) c3)).setCell ⟨g + 1 + 1, 0, none⟩ (.slice A3 (l.length + 1) c3)).setCell ⟨g + 1 + 1, 1, none⟩ (.int .i64 r) = RThree.fin w3 g (.slice A3 (l.length + 1) c3) r := rfl
        rw [ev]
        generalize RThree.fin w3 g (.slice A3 (l.length + 1) c3) r = wz at *
        obtain ⟨z0, z1⟩ := RDd
        exact bodyPost_ret (v := .agg #[.slice A3 (l.length + 1) c3, .int .i64 r]) (by simp [results, Try.results29, go_sem, z0, z1]) rfl ⟨_, rfl, by rw [EP.out]; exact OwnEn.any (OF.out.lower B1s.out), W1.out⟩
end Go.Proofs.Ytmkfiiheeplmgaa
