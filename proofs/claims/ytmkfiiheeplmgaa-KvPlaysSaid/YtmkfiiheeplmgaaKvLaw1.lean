/-
  The helpers of the statements of layer 8: ops, as. No condition.
-/
import Derived.Test.YtmkfiiheeplmgaaKvRef6
import Derived.Lib.MinMax
namespace Go.Proofs.Ytmkfiiheeplmgaa
open Go.RowKit Go.Deep

namespace Kv
def cutB (s : ByteArray) : ByteArray := s.extract 0 (min s.size 70)
def cut1 (o : Po) : Po := ⟨cutB o.key, cutB o.val, o.rev, o.drop⟩
def cuts (l : List Po) : List Po := (l.take 70).map cut1
theorem cutB_size (s : ByteArray) : (cutB s).size = min s.size 70 := by unfold cutB; rw [ByteArray.size_extract]; omega
theorem cuts_len (l : List Po) : (cuts l).length ≤ 70 := by unfold cuts; rw [List.length_map, List.length_take]; omega
theorem cuts_snoc {l : List Po} {j : Nat} {o : Po} (h : l[j]? = some o) : (l.take (j + 1)).map cut1 = (l.take j).map cut1 ++ [cut1 o] := by
  rw [List.take_add_one, h]; simp
end Kv
/-- Ops that a call makes. -/
def KOps (e0 : TypeId) (l : List Kv.Po) (w : World) (e : Ending) (w' : World) : Prop := ∃ v, e = .returned v ∧ OwnPo e0 w' w.heap.size v l ∧ Below w.heap.size w w'
/-- A fresh copy of an op. -/
structure PAt (w : World) (g : Nat) (o : Kv.Po) : Prop where
  row : w.heap[g]? = some (.cells #[.string o.key, .string o.val, .int .i64 o.rev, .bool o.drop] 42 (0, 0))
theorem PAt.new (w : World) (o : Kv.Po) : PAt (w.alloc (.cells #[.string o.key, .string o.val, .int .i64 o.rev, .bool o.drop] 42)) w.heap.size o := ⟨heap_alloc_new w _⟩
theorem PAt.cells {w : World} {g : Nat} {o : Kv.Po} (h : PAt w g o) : w.cell? ⟨g, 0, none⟩ = some (.string o.key) ∧ w.cell? ⟨g, 1, none⟩ = some (.string o.val) ∧ w.cell? ⟨g, 2, none⟩ = some (.int .i64 o.rev) ∧ w.cell? ⟨g, 3, none⟩ = some (.bool o.drop) ∧ w.frozen? ⟨g, 0, none⟩ = false ∧ w.frozen? ⟨g, 1, none⟩ = false ∧ g < w.heap.size :=
  ⟨by rw [cell_of_row w g 0 _ _ _ h.row]; rfl, by rw [cell_of_row w g 1 _ _ _ h.row]; rfl, by rw [cell_of_row w g 2 _ _ _ h.row]; rfl, by rw [cell_of_row w g 3 _ _ _ h.row]; rfl, frozen_of_row _ _ _ _ _ h.row, frozen_of_row _ _ _ _ _ h.row, (Array.getElem?_eq_some_iff.1 h.row).1⟩
theorem PAt.cut {w : World} {g : Nat} {o : Kv.Po} (h : PAt w g o) (k v : ByteArray) : PAt (((w.setCell ⟨g, 0, none⟩ (.string k)).setCell ⟨g, 1, none⟩ (.string v)).drew) g ⟨k, v, o.rev, o.drop⟩ := by
  have h1 := heap_setCell_same w g 0 _ _ (.string k) h.row
  have h2 := heap_setCell_same (w.setCell ⟨g, 0, none⟩ (.string k)) g 1 _ _ (.string v) h1
  exact ⟨h2⟩
set_option maxHeartbeats 3200000 in
theorem kops_any (l : List Kv.Po) (n c : Nat) (A : Option Addr) (w : World) (h : SlP w A n c l) :
    Calls Try.prog 11 #[.slice A n c] w (KOps 42 (Kv.cuts l) w) := by
  have hn := h.len
  have hmx := h.max
  have hcp := h.cap
  unfold maxLen at hmx
  have HA := Lib.hid h
  have HN := Lib.hid hn
  clear h hn
  go_enter Try.func11, Try.ntmps11
  go_wp2_with fail
  go_loopw [3, 4] (fun v i wr => ∃ j : Nat, j ≤ n ∧ j ≤ 70 ∧ i = .int .i64 j ∧ OwnPo 42 wr w.heap.size v ((l.take j).map Kv.cut1) ∧ Below w.heap.size w wr) (fun _ i _ => 70 - (intOf i).toNat)
  case atStart => exact ⟨0, by omega, by omega, rfl, OwnR.none_ _ _ _ _, Below.refl _ _⟩
  case round =>
    obtain ⟨j, hj, hj7, rfl, ho, hbr⟩ := hrel
    have O := Lib.hid ho
    have B := Lib.hid hbr
    clear ho hbr
    by_cases hlt : j < n ∧ j < 70
    · obtain ⟨h1, h2⟩ := hlt
      obtain ⟨b1, o1, rfl⟩ := HA.out.addr (by have := HN.out; omega)
      have EO : Hid (l[j]? = some (l[j]'(by have := HN.out; omega))) := List.getElem?_eq_getElem _
      generalize l[j]'(by have := HN.out; omega) = o at *
      obtain ⟨p0, p1, p2, p3⟩ := HA.out.po EO.out B.out
      have OK := HA.out.poOk (List.mem_of_getElem? EO.out)
      have ST := Lib.hid (Kv.cuts_snoc EO.out)
      have hk1 : (o.key.size : Int) ≤ 9223372036854775807 := by have := OK.1; unfold maxLen at this; omega
      have hk2 : (o.val.size : Int) ≤ 9223372036854775807 := by have := OK.2.1; unfold maxLen at this; omega
      have OI := Lib.hid OK.2.2
      clear OK
      have h2' : (j : Int) < 70 := by omega
      have P0 := Lib.hid (PAt.new wr o)
      have BN := Lib.hid ((Below.refl wr.heap.size wr).alloc (Nat.le_refl _) (.cells #[.string o.key, .string o.val, .int .i64 o.rev, .bool o.drop] 42))
      go_upto_region 6 with fail
      obtain ⟨g, hg⟩ : ∃ g, g = wr.heap.size := ⟨_, rfl⟩
      rw [← hg] at P0 ⊢
      have ON := Lib.hid (OwnPo.any (w1 := wr.alloc (.cells #[.string o.key, .string o.val, .int .i64 o.rev, .bool o.drop] 42)) (O.out.below BN.out))
      have BW := Lib.hid (B.out.trans (BN.out.mono B.out.size))
      have OG : Hid (∀ k, u3.ownBlock = some k → k ≠ g) := fun k hk => by have := (O.out.lt k hk).2; omega
      have WG : Hid (w.heap.size ≤ g) := by have := B.out.size; show _ ≤ _; omega
      clear O BN B
      generalize wr.alloc (.cells #[.string o.key, .string o.val, .int .i64 o.rev, .bool o.drop] 42) = ws at *
      have HG := Lib.hid hg
      clear hg p0 p1 p2 p3
      obtain ⟨c0, c1, c2, c3, f0, f1, hgl⟩ := P0.out.cells
      have hm1 : min (o.key.size : Int) 70 = ((min o.key.size 70 : Nat) : Int) := by omega
      have hm2 : min (o.val.size : Int) 70 = ((min o.val.size 70 : Nat) : Int) := by omega
      have hl1 : ((min o.key.size 70 : Nat) : Int) ≤ (o.key.size : Int) := by omega
      have hl2 : ((min o.val.size 70 : Nat) : Int) ≤ (o.val.size : Int) := by omega
      have E1 : Hid (Kv.cut1 o = ⟨o.key.extract 0 (min o.key.size 70), o.val.extract 0 (min o.val.size 70), o.rev, o.drop⟩) := rfl
      have S1 : Hid ((o.key.extract 0 (min o.key.size 70)).size ≤ 70 ∧ (o.val.extract 0 (min o.val.size 70)).size ≤ 70) := ⟨by rw [ByteArray.size_extract]; omega, by rw [ByteArray.size_extract]; omega⟩
      generalize min o.key.size 70 = n1 at *
      generalize min o.val.size 70 = n2 at *
      go_region
      have P1 := Lib.hid (P0.out.cut (o.key.extract 0 n1) (o.val.extract 0 n2))
      have B2 : Hid (Below w.heap.size w ((ws.setCell ⟨g, 0, none⟩ (.string (o.key.extract 0 n1))).setCell ⟨g, 1, none⟩ (.string (o.val.extract 0 n2))).drew) := (below_two BW.out WG.out _ _).drew
      have O2 : Hid (OwnPo 42 ((ws.setCell ⟨g, 0, none⟩ (.string (o.key.extract 0 n1))).setCell ⟨g, 1, none⟩ (.string (o.val.extract 0 n2))).drew w.heap.size u3 ((l.take j).map Kv.cut1)) := OwnPo.any ((OwnPo.any (w1 := ((ws.setCell ⟨g, 0, none⟩ (.string (o.key.extract 0 n1))).setCell ⟨g, 1, none⟩ (.string (o.val.extract 0 n2)))) (ON.out.keep fun i hi => block_two _ _ _ _ _ (OG.out i hi))).below (Below.refl ((ws.setCell ⟨g, 0, none⟩ (.string (o.key.extract 0 n1))).setCell ⟨g, 1, none⟩ (.string (o.val.extract 0 n2))).heap.size ((ws.setCell ⟨g, 0, none⟩ (.string (o.key.extract 0 n1))).setCell ⟨g, 1, none⟩ (.string (o.val.extract 0 n2)))).drew)
      clear ON BW P0 c0 c1 c2 c3 f0 f1 hgl hm1 hm2 hl1 hl2
      generalize ((ws.setCell ⟨g, 0, none⟩ (.string (o.key.extract 0 n1))).setCell ⟨g, 1, none⟩ (.string (o.val.extract 0 n2))).drew = wt at *
      rw [← E1.out] at P1
      have EP : Hid (EPo wt [.string (Kv.cut1 o).key, .string (Kv.cut1 o).val, .int .i64 (Kv.cut1 o).rev, .bool (Kv.cut1 o).drop] (Kv.cut1 o)) := ⟨rfl, by have := S1.out.1; rw [E1.out]; unfold maxLen; show (o.key.extract 0 n1).size ≤ _; omega, by have := S1.out.2; rw [E1.out]; unfold maxLen; show (o.val.extract 0 n2).size ≤ _; omega, OI.out⟩
      have LN : Hid (((l.take j).map Kv.cut1).length ≤ 1000000) := by show _ ≤ _; rw [List.length_map, List.length_take]; omega
      obtain ⟨c0, c1, c2, c3, f0, f1, hgl⟩ := P1.out.cells
      generalize Kv.cut1 o = q at *
      go_wp2_with (at_builtin; refine wpList_append_po rfl (.tmp 36) (.tmp 38) rfl w.heap.size _ _ rfl O2.out q EP.out rfl LN.out B2.out.size ?_; intro v3 w3 ho3 hb3 hg3; have O3 := Lib.hid ho3; have B3 := Lib.hid (B2.out.trans (hb3.mono (Nat.le_refl _))); clear ho3 hb3 hg3)
      exact ⟨⟨j + 1, by omega, by omega, by go_num, by rw [ST.out]; exact O3.out, B3.out⟩, by simp [intOf]; omega⟩
    · have E : Hid ((l.take j).map Kv.cut1 = Kv.cuts l) := by
        have := HN.out
        show _ = _
        unfold Kv.cuts
        refine congrArg (List.map Kv.cut1) ?_
        rcases Nat.lt_or_ge j 70 with h | h
        · rw [List.take_of_length_le (by omega), List.take_of_length_le (by omega)]
        · rw [show j = 70 by omega]
      rw [E.out] at O
      by_cases h1 : j < n
      · have h2 : ¬ (j : Int) < 70 := by omega
        go_wp2_with fail
        go_ret
        exact ⟨_, rfl, O.out, B.out⟩
      · go_wp2_with fail
        go_ret
        exact ⟨_, rfl, O.out, B.out⟩
theorem kas_any (l : List Kv.Po) (n c : Nat) (A : Option Addr) (w : World) (h : SlP w A n c l) (hz : l.length ≤ 1000) :
    Calls Try.prog 13 #[.slice A n c] w (KOps 52 l w) := by
  have hn := h.len
  have hmx := h.max
  have hcp := h.cap
  unfold maxLen at hmx
  have HA := Lib.hid h
  have HN := Lib.hid hn
  have HZ := Lib.hid hz
  clear h hn hz
  go_enter Try.func13, Try.ntmps13
  go_wp2_with fail
  go_loopw [3, 4] (fun v i wr => ∃ j : Nat, j ≤ n ∧ i = .int .i64 j ∧ OwnPo 52 wr w.heap.size v (l.take j) ∧ Below w.heap.size w wr) (fun _ i _ => n - (intOf i).toNat)
  case atStart => exact ⟨0, by omega, rfl, OwnR.none_ _ _ _ _, Below.refl _ _⟩
  case round =>
    obtain ⟨j, hj, rfl, ho, hbr⟩ := hrel
    have O := Lib.hid ho
    have B := Lib.hid hbr
    clear ho hbr
    by_cases h1 : j < n
    · obtain ⟨b1, o1, rfl⟩ := HA.out.addr (by have := HN.out; omega)
      have EO : Hid (l[j]? = some (l[j]'(by have := HN.out; omega))) := List.getElem?_eq_getElem _
      generalize l[j]'(by have := HN.out; omega) = o at *
      obtain ⟨p0, p1, p2, p3⟩ := HA.out.po EO.out B.out
      have OK := HA.out.poOk (List.mem_of_getElem? EO.out)
      have EP : Hid (EPo wr [.string o.key, .string o.val, .int .i64 o.rev, .bool o.drop] o) := ⟨rfl, OK.1, OK.2.1, OK.2.2⟩
      clear OK
      have ST : Hid (l.take (j + 1) = l.take j ++ [o]) := by
        show _ = _
        rw [List.take_add_one, EO.out]; rfl
      have LN : Hid ((l.take j).length ≤ 1000000) := by show _ ≤ _; rw [List.length_take]; have := HZ.out; omega
      go_wp2_with (at_builtin; refine wpList_append_kvo rfl (.tmp 11) (.tmp 16) rfl w.heap.size _ _ rfl O.out o EP.out rfl LN.out B.out.size ?_; intro v3 w3 ho3 hb3 hg3; have O3 := Lib.hid ho3; have B3 := Lib.hid (B.out.trans (hb3.mono (Nat.le_refl _))); clear ho3 hb3 hg3)
      exact ⟨⟨j + 1, by omega, by go_num, by rw [ST.out]; exact O3.out, B3.out⟩, by simp [intOf]; omega⟩
    · have E : Hid (l.take j = l) := List.take_of_length_le (by have := HN.out; omega)
      rw [E.out] at O
      go_wp2_with fail
      go_ret
      exact ⟨_, rfl, O.out, B.out⟩
end Go.Proofs.Ytmkfiiheeplmgaa
