/-
  The walk of the statement SpecReads, of whatever package spec keeps SC.
-/
import Derived.Test.YtijloajkiannlaaDoorSpSC
import Derived.Test.YtijloajkiannlaaDoorSpEq
namespace Go.Proofs.YtijloajkiannlaaDoor
open Go.RowKit

/-- Any text is bytes. -/
theorem txt_of (s : ByteArray) : ∃ l : List Nat, s = txt l ∧ l.length = s.size ∧ ∀ x ∈ l, x < 256 := by
  refine ⟨s.data.toList.map UInt8.toNat, txt_ext ?_, ?_, ?_⟩
  · rw [txt_list, List.map_map]
    conv => lhs; rw [← List.map_id s.data.toList]
    apply List.map_congr_left
    intro x _
    simp
  · rw [List.length_map, Array.length_toList]; rfl
  · intro x hx
    obtain ⟨y, _, rfl⟩ := List.mem_map.1 hx
    exact y.toNat_lt
set_option maxHeartbeats 1600000 in
theorem sreads_walk (hS : SC) (s : ByteArray) (hz : s.size ≤ maxLen) (w : World) (htb : Tb w) :
    Calls Tryd.prog 3 #[.string s] w fun e w' => e = .returned (.bool true) ∧ Below w.heap.size w w' := by
  have HS := Lib.hid hS
  have HTB := Lib.hid htb
  clear htb
  unfold maxLen at hz
  obtain ⟨t, ht, htl, hb⟩ := txt_of (s.extract 0 (min (s.size : Int) 200).toNat)
  have hl : t.length ≤ 1000 := by rw [htl, ByteArray.size_extract]; omega
  have m1 : (0 : Int) ≤ min (s.size : Int) 200 := by omega
  have m2 : min (s.size : Int) 200 ≤ (s.size : Int) := by omega
  have C1 := Lib.hid (fun W (h : Tb W) => HS.out.read t W h hb hl)
  have C2 := Lib.hid (fun W => rread_any t hb hl W)
  unfold RPost at C1 C2
  have hq := fun W => spec_same (Spc.rdV t) W
  generalize Spc.rdV t = r at *
  generalize Spc.rdE t = er at *
  have HT := Lib.hid ht
  unfold Spc.val at *
  unfold Spc.cells at *
  clear hS ht htl hb hl
  go_enter Tryd.func3, Tryd.ntmps3
  go_wp2_with fail
  refine (slives_any HS.out w HTB.out).mono ?_
  rintro e w1 ⟨rfl, hb1⟩
  have B1 := Lib.hid hb1
  clear hb1
  go_wp2_with fail
  rw [HT.out]
  refine (C1.out w1 (HTB.out.on B1.out)).mono ?_
  rintro e w2 ⟨rfl, hb2⟩
  have B2 := Lib.hid (B1.out.trans (hb2.mono B1.out.size))
  clear hb2
  go_wp2_with fail
  have hn := heap_alloc_new w2 (.cells (Spc.cells r) 25)
  have hb3 := (Below.refl w2.heap.size w2).alloc (Nat.le_refl _) (.cells (Spc.cells r) 25)
  have hz3 : w2.heap.size < (w2.alloc (.cells (Spc.cells r) 25)).heap.size := by simp
  have A3 := Lib.hid (spAt_of hn)
  have Z3 := Lib.hid hz3
  have B3 := Lib.hid (B2.out.trans (hb3.mono B2.out.size))
  clear hn hb3 hz3
  unfold Spc.cells at A3 Z3 B3
  generalize w2.alloc (.cells #[.int .i64 r.v, .int .i64 r.d, .int .i64 r.u, .int .i64 r.n, .int .i64 r.g, .int .i64 r.a, .int .i64 r.b, .int .i64 r.c, .int .i64 r.e, .int .i64 r.w, .int .i64 r.x, .int .i64 r.k] 25) = w3 at *
  refine (C2.out w3).mono ?_
  rintro e w4 ⟨rfl, hb4⟩
  have B4 := Lib.hid (B3.out.trans (hb4.mono B3.out.size))
  have A4 := A3.out.below Z3.out hb4
  have Z4 : w2.heap.size < w4.heap.size := Nat.lt_of_lt_of_le Z3.out hb4.size
  have hb5 := (Below.refl w4.heap.size w4).alloc (Nat.le_refl _) (.cells (Spc.cells r) 25)
  have hn5 := heap_alloc_new w4 (.cells (Spc.cells r) 25)
  have B5 := Lib.hid (B4.out.trans (hb5.mono B4.out.size))
  obtain ⟨f0, f1, f2, f3, f4, f5, f6, f7, f8, f9, f10, f11⟩ := A4.below Z4 hb5
  obtain ⟨g0, g1, g2, g3, g4, g5, g6, g7, g8, g9, g10, g11⟩ := spAt_of hn5
  clear hb4 A4 Z4 hb5 hn5 A3 Z3 B4 C1 C2
  unfold Spc.cells at *
  go_wp2_with fail
  go_ret
  exact ⟨rfl, B5.out⟩
end Go.Proofs.YtijloajkiannlaaDoor
