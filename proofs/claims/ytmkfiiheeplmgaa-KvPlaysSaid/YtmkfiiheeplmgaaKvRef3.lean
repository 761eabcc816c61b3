/-
  The document's package of layer 8: drop. No condition.
-/
import Derived.Test.YtmkfiiheeplmgaaKvRef2
namespace Go.Proofs.Ytmkfiiheeplmgaa
open Go.RowKit Go.Deep

/-- What drop and put answer: the store, its entries in a row of the call's own. -/
def RPost (l : List Kv.En) (r : Int) (w : World) (e : Ending) (w' : World) : Prop :=
  ∃ v, e = .returned (.agg #[v, .int .i64 r]) ∧ OwnEn w' w.heap.size v l ∧ Below w.heap.size w w'
/-- Two stores by value, laid one behind the other, turned no more. -/
structure RTwo (w : World) (g : Nat) (v u : Value) (r s : Int) : Prop where
  a0 : w.cell? ⟨g, 0, none⟩ = some v
  a1 : w.cell? ⟨g, 1, none⟩ = some (.int .i64 r)
  b0 : w.cell? ⟨g + 1, 0, none⟩ = some u
  b1 : w.cell? ⟨g + 1, 1, none⟩ = some (.int .i64 s)
  f0 : w.frozen? ⟨g, 0, none⟩ = false
  f1 : w.frozen? ⟨g + 1, 0, none⟩ = false
  f2 : w.frozen? ⟨g + 1, 1, none⟩ = false
  lt : g + 1 < w.heap.size
theorem RTwo.new (w : World) (v : Value) (r : Int) : RTwo ((w.alloc (.cells #[v, .int .i64 r] 28)).alloc (.cells #[.slice none 0 0, .int .i64 0] 28)) w.heap.size v (.slice none 0 0) r 0 := by
  have h1 := heap_alloc_new w (.cells #[v, .int .i64 r] 28)
  have h2 := heap_alloc_new (w.alloc (.cells #[v, .int .i64 r] 28)) (.cells #[.slice none 0 0, .int .i64 0] 28)
  have hsz : (w.alloc (.cells #[v, .int .i64 r] 28)).heap.size = w.heap.size + 1 := by simp
  have h3 := blk_on h1 ((Below.refl _ _).alloc (Nat.le_refl (w.alloc (.cells #[v, .int .i64 r] 28)).heap.size) (.cells #[.slice none 0 0, .int .i64 0] 28))
  rw [hsz] at h2
  refine ⟨?_, ?_, ?_, ?_, ?_, ?_, ?_, by simp⟩
  · rw [cell_of_row _ _ 0 _ _ _ h3]; rfl
  · rw [cell_of_row _ _ 1 _ _ _ h3]; rfl
  · rw [cell_of_row _ _ 0 _ _ _ h2]; rfl
  · rw [cell_of_row _ _ 1 _ _ _ h2]; rfl
  · exact frozen_of_row _ _ _ _ _ h3
  · exact frozen_of_row _ _ _ _ _ h2
  · exact frozen_of_row _ _ _ _ _ h2
theorem RTwo.on {w w' : World} {g : Nat} {v u : Value} {r s : Int} (h : RTwo w g v u r s) (hb : Below w.heap.size w w') : RTwo w' g v u r s := by
  have h1 : g < w.heap.size := by have := h.lt; omega
  exact ⟨(hb.cell (p := ⟨g, 0, none⟩) h1).trans h.a0, (hb.cell (p := ⟨g, 1, none⟩) h1).trans h.a1, (hb.cell (p := ⟨g + 1, 0, none⟩) h.lt).trans h.b0, (hb.cell (p := ⟨g + 1, 1, none⟩) h.lt).trans h.b1,
    (hb.frozen (p := ⟨g, 0, none⟩) h1).trans h.f0, (hb.frozen (p := ⟨g + 1, 0, none⟩) h.lt).trans h.f1, (hb.frozen (p := ⟨g + 1, 1, none⟩) h.lt).trans h.f2, Nat.lt_of_lt_of_le h.lt hb.size⟩
/-- A store's list turned, and the whole laid in the other. -/
def RTwo.fin (wr : World) (g : Nat) (v : Value) (r : Int) : World := ((wr.setCell ⟨g, 0, none⟩ v).setCell ⟨g + 1, 0, none⟩ v).setCell ⟨g + 1, 1, none⟩ (.int .i64 r)
theorem RTwo.grown (wr : World) (g : Nat) (v : Value) (r : Int) (i : Nat) (h0 : i ≠ g) (h1 : i ≠ g + 1) : (RTwo.fin wr g v r).heap[i]? = wr.heap[i]? := by
  unfold RTwo.fin
  rw [heap_setCell_other _ _ _ _ (by simpa using h1), heap_setCell_other _ _ _ _ (by simpa using h1), heap_setCell_other _ _ _ _ (by simpa using h0)]
theorem RTwo.below {w wr : World} {B g : Nat} (h : Below B w wr) (hB : B ≤ g) (v : Value) (r : Int) : Below B w (RTwo.fin wr g v r) :=
  ((h.setCell (p := ⟨g, 0, none⟩) hB v).setCell (p := ⟨g + 1, 0, none⟩) (by simp; omega) v).setCell (p := ⟨g + 1, 1, none⟩) (by simp; omega) _
theorem RTwo.read {wr : World} {g : Nat} {v u : Value} {r s : Int} (h : RTwo wr g v u r s) (v' : Value) (r' : Int) : (RTwo.fin wr g v' r').cell? ⟨g + 1, 0, none⟩ = some v' ∧ (RTwo.fin wr g v' r').cell? ⟨g + 1, 1, none⟩ = some (.int .i64 r') := by
  have h0 := h.b0
  have h1 := h.b1
  have e1 : (wr.setCell ⟨g, 0, none⟩ v').cell? ⟨g + 1, 0, none⟩ = some u := (World.cell?_setCell_other _ _ _ _ (by simp)).trans h0
  have e2 : (wr.setCell ⟨g, 0, none⟩ v').cell? ⟨g + 1, 1, none⟩ = some (.int .i64 s) := (World.cell?_setCell_other _ _ _ _ (by simp)).trans h1
  have e3 : ((wr.setCell ⟨g, 0, none⟩ v').setCell ⟨g + 1, 0, none⟩ v').cell? ⟨g + 1, 1, none⟩ = some (.int .i64 s) := (World.cell?_setCell_other _ _ _ _ (by simp)).trans e2
  exact ⟨(World.cell?_setCell_other _ _ _ _ (by simp)).trans (World.cell?_setCell_same _ _ _ e1), World.cell?_setCell_same _ _ _ e3⟩
theorem rdrop_any (l : List Kv.En) (r : Int) (n c : Nat) (A : Option Addr) (k : ByteArray) (w : World) (h : SlE w A n c l) (hz : l.length ≤ 1000) :
    Calls Try.prog 28 #[.agg #[.slice A n c, .int .i64 r], .string k] w (RPost (Kv.dropK l k) r w) := by
  have hn := h.len
  have hmx := h.max
  have hcp := h.cap
  unfold maxLen at hmx
  have B1 := Lib.hid (((Below.refl w.heap.size w).alloc (Nat.le_refl _) (.cells #[.slice A n c, .int .i64 r] 28)).alloc (by simp) (.cells #[.slice none 0 0, .int .i64 0] 28))
  have R1 := Lib.hid (RTwo.new w (.slice A n c) r)
  have HA := Lib.hid (h.on EEn.on B1.out)
  have HN := Lib.hid hn
  have HZ := Lib.hid hz
  clear h hn hz
  go_enter Try.func28, Try.ntmps28
  go_wp2_with fail
  obtain ⟨g, hg⟩ : ∃ g, g = w.heap.size := ⟨_, rfl⟩
  rw [← hg] at R1 ⊢
  generalize (w.alloc (.cells #[.slice A n c, .int .i64 r] 28)).alloc (.cells #[.slice none 0 0, .int .i64 0] 28) = w1 at *
  have HG := Lib.hid hg
  clear hg
  go_loopw [5, 6] (fun v i wr => ∃ j : Nat, j ≤ n ∧ i = .int .i64 j ∧ OwnEn wr w1.heap.size v (Kv.dropK (l.take j) k) ∧ Below w1.heap.size w1 wr) (fun _ i _ => n - (intOf i).toNat)
  case atStart => exact ⟨0, by omega, rfl, OwnR.none_ _ _ _ _, Below.refl _ _⟩
  case round =>
    obtain ⟨j, hj, rfl, ho, hbr⟩ := hrel
    have O := Lib.hid ho
    have B := Lib.hid hbr
    have R2 := Lib.hid (R1.out.on hbr)
    obtain ⟨q0, q1, c0, c1, f0, f1, f2, hgl⟩ := R1.out.on hbr
    clear ho hbr
    by_cases hlt : j < n
    · obtain ⟨b1, o1, rfl⟩ := HA.out.addr (by have := HN.out; omega)
      have EA : Hid (l[j]? = some (l[j]'(by have := HN.out; omega))) := List.getElem?_eq_getElem _
      generalize l[j]'(by have := HN.out; omega) = x at *
      obtain ⟨p0, p1, p2⟩ := HA.out.en EA.out B.out
      have ST : Hid (Kv.dropK (l.take (j + 1)) k = Kv.dropK (l.take j) k ++ (if x.key = k then [] else [x])) := by
        show _ = _
        rw [List.take_add_one, EA.out]
        unfold Kv.dropK
        rw [List.filter_append]
        congr 1
        by_cases h : x.key = k
        · simp [h]
        · rw [if_neg h]
          show List.filter _ [x] = [x]
          rw [List.filter_cons_of_pos (by rw [Kv.tne.2 h]; rfl)]; rfl
      have LN : Hid ((Kv.dropK (l.take j) k).length ≤ 1000000) := by
        show _ ≤ _
        have h1 := List.length_filter_le (fun e : Kv.En => !(e.key.toList == k.toList)) (l.take j)
        rw [List.length_take] at h1
        have := HZ.out
        unfold Kv.dropK; omega
      by_cases hr : x.key = k
      · rw [if_pos hr, List.append_nil] at ST
        have ht : (x.key.toList == k.toList) = true := Kv.teq.2 hr
        go_wp2_with fail
        exact ⟨⟨j + 1, by omega, by go_num, by rw [ST.out]; exact O.out, B.out⟩, by simp [intOf]; omega⟩
      · rw [if_neg hr] at ST
        have ht : (x.key.toList == k.toList) = false := Kv.tne.2 hr
        go_wp2_with (at_builtin; refine wpList_append_en rfl (.tmp 22) (.tmp 28) rfl w1.heap.size _ _ rfl O.out x rfl LN.out B.out.size ?_; intro v3 w3 ho3 hb3 hg3; have O3 := Lib.hid ho3; have B3 := Lib.hid (B.out.trans (hb3.mono (Nat.le_refl _))); clear ho3 hb3 hg3)
        exact ⟨⟨j + 1, by omega, by go_num, by rw [ST.out]; exact O3.out, B3.out⟩, by simp [intOf]; omega⟩
    · have E : Hid (l.take j = l) := List.take_of_length_le (by have := HN.out; omega)
      rw [E.out] at O
      obtain ⟨A3, c3, rfl⟩ := O.out.form
      have HG2 := HG.out
      have RD := R2.out.read (.slice A3 (Kv.dropK l k).length c3) r
      have W1 := Lib.hid (RTwo.below (B1.out.trans (B.out.mono B1.out.size)) (Nat.le_of_eq HG2.symm) (.slice A3 (Kv.dropK l k).length c3) r)
      have OF := Lib.hid (O.out.keep (w' := RTwo.fin wr g (.slice A3 (Kv.dropK l k).length c3) r) fun i hi => RTwo.grown _ _ _ _ i (by have := (O.out.lt i hi).1; have := R1.out.lt; omega) (by have := (O.out.lt i hi).1; have := R1.out.lt; omega))
      have B1s := Lib.hid B1.out.size
      clear HG2
      go_wp2_with fail
      have ev : ((wr.setCell ⟨g, 0, none⟩ (.slice A3 (Kv.dropK l k).length c3)).setCell ⟨g + 1, 0, none⟩ (.slice A3 (Kv.dropK l k).length c3)).setCell ⟨g + 1, 1, none⟩ (.int .i64 r) = RTwo.fin wr g (.slice A3 (Kv.dropK l k).length c3) r := rfl
      rw [ev]
      generalize RTwo.fin wr g (.slice A3 (Kv.dropK l k).length c3) r = wz at *
      obtain ⟨z0, z1⟩ := RD
      exact bodyPost_ret (v := .agg #[.slice A3 (Kv.dropK l k).length c3, .int .i64 r]) (by simp [results, Try.results28, go_sem, z0, z1]) rfl ⟨_, rfl, OwnEn.any (OF.out.lower B1s.out), W1.out⟩
end Go.Proofs.Ytmkfiiheeplmgaa
