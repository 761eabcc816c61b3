/-
  The library's numerals and joins, told of texts as lists of numbers. No condition.
  The developers' package spec: a spec's text.
-/
import Derived.Test.YtifokcpkamdkeaaDoorSpLib
import Derived.Test.YtifokcpkamdkeaaDoorSpRef2
import Derived.Test.YtifokcpkamdkeaaDoorShelf
import Derived.Lib.SmallJoins
import Derived.Lib.LaidTab
import Derived.Test.YtifokcpkamdkeaaDoorSpN1
import Derived.Test.YtifokcpkamdkeaaDoorSpRef7
import Derived.Deep.OwnRows
namespace Go.Proofs.YtifokcpkamdkeaaDoor
open Go.RowKit
set_option linter.unusedSimpArgs false

theorem g_pow : Tryd.prog.globalNamed "internal/strconv.uint64pow10" = some 0 := by kernel_rfl
/-- What the library's own variables hold, as far as these calls read them. -/
structure Tb (w : World) : Prop where
  pow : Lib.TabIs Tryd.prog w "internal/strconv.uint64pow10" .u64 Lib.pow10Tab
theorem Tb.on {w w' : World} (h : Tb w) (hb : Below w.heap.size w w') : Tb w' := ⟨Joins.tab_stays g_pow h.pow hb (Nat.le_refl _)⟩
theorem below_grown_ (w : World) (k : Nat) (os : Array Obj) : Below w.heap.size w (Go.Sort.grow (w.drewN k) os) :=
  ⟨rfl, rfl, rfl, by show w.heap.size ≤ (w.heap ++ os).size; rw [Array.size_append]; omega, fun j hj => by show (w.heap ++ os)[j]? = _; rw [Array.getElem?_append_left hj]⟩
theorem itoa_any (n : Int) (hn : Spc.i64 n) (w : World) (ht : Tb w) : Calls Tryd.prog 30 #[.int .i64 n] w (APos w (.string (txt (Spc.digs n)))) := by
  refine (Tryd.strconv_Itoa n hn.1 hn.2 w ht.pow).mono ?_
  rintro e w' ⟨rfl, k, os, rfl⟩
  rw [Spc.itoa_txt]
  exact ⟨rfl, below_grown_ _ _ _⟩
end Go.Proofs.YtifokcpkamdkeaaDoor
namespace Go.Proofs.YtifokcpkamdkeaaDoor
open Go.RowKit Go.Deep
set_option linter.unusedSimpArgs false

theorem join_any (g n c : Nat) (ws : List (List Nat)) (hne : ws ≠ []) (hn : n = ws.length) (hN : ws.length ≤ 1000) (hlen : (Spc.join ws).length ≤ 1000000) (w : World) (hcell : ∀ j, j < ws.length → w.cell? ⟨g, j, none⟩ = some (.string (txt (ws.getD j [])))) (hg : g < w.heap.size) (hc : n ≤ c) :
    Calls Tryd.prog 32 #[.slice (some ⟨g, 0, none⟩) n c, .string ⟨#[32]⟩] w (APos w (.string (txt (Spc.join ws)))) := by
  obtain ⟨h1, h2⟩ := Spc.join_txt ws hne
  have h := Tryd.strings_Join g 0 c (ws.map txt) ⟨#[32]⟩ w (fun j x hx => by
    rw [List.getElem?_map] at hx
    obtain ⟨u, hu, rfl⟩ := Option.map_eq_some_iff.1 hx
    obtain ⟨hj, hu⟩ := List.getElem?_eq_some_iff.1 hu
    have := hcell j hj
    rw [getD_at hj, hu] at this
    rw [Nat.zero_add]
    exact this) hg (by rw [List.length_map]; omega) (by rw [List.length_map]; omega) (by show (Lib.join _ [32]).length ≤ _; rw [h2]; omega)
  rw [List.length_map, ← hn] at h
  refine h.mono ?_
  rintro e w' ⟨rfl, hb⟩
  exact ⟨by rw [← h1], hb⟩
/-- The words laid so far. -/
def wd (s : Spc.Sp) (j i : Nat) : Value := if i < j then .string (txt (Spc.digs ((Spc.flds s).getD i 0))) else .string ⟨#[]⟩
theorem wd_put {s : Spc.Sp} {w : World} {g j : Nat} {t : TypeId} {v : Value} (h : w.rowIs g t 12 (wd s j)) (hv : v = .string (txt (Spc.digs ((Spc.flds s).getD j 0)))) : (w.setCell ⟨g, j, none⟩ v).rowIs g t 12 (wd s (j + 1)) := by
  refine (h.set j v).congr fun i _ => ?_
  by_cases e : i = j
  · subst e; rw [if_pos rfl, hv]; unfold wd; rw [if_pos (by omega)]
  · rw [if_neg e]; unfold wd
    by_cases h1 : i < j
    · rw [if_pos h1, if_pos (by omega)]
    · rw [if_neg h1, if_neg (by omega)]
theorem wd_zero (s : Spc.Sp) (w : World) (t : TypeId) (c : Array Value) (hc : c = #[.string ⟨#[]⟩, .string ⟨#[]⟩, .string ⟨#[]⟩, .string ⟨#[]⟩, .string ⟨#[]⟩, .string ⟨#[]⟩, .string ⟨#[]⟩, .string ⟨#[]⟩, .string ⟨#[]⟩, .string ⟨#[]⟩, .string ⟨#[]⟩, .string ⟨#[]⟩]) : (w.alloc (.cells c t)).rowIs w.heap.size t 12 (wd s 0) := by
  subst hc
  refine World.rowIs_alloc w _ t _ fun i hi => ?_
  have e : wd s 0 i = .string ⟨#[]⟩ := by unfold wd; rw [if_neg (by omega)]
  rw [e]
  rcases i with _ | _ | _ | _ | _ | _ | _ | _ | _ | _ | _ | _ | i <;> first | rfl | (simp at hi; omega)
theorem text_short (s : Spc.Sp) (hin : Spc.In s) : (Spc.text s).length ≤ 1000 := by
  have key : ∀ j, 1 ≤ j → j ≤ 12 → (tx s j).length ≤ 21 * j := by
    intro j
    induction j with
    | zero => intro h; omega
    | succ j ih =>
      intro _ h2
      by_cases h0 : j = 0
      · subst h0
        rw [tx_one]
        have := digs_len (in_at hin (j := 0) (by omega))
        exact Nat.le_trans this (by omega)
      · have h3 := ih (by omega) (by omega)
        rw [tx_next s j (by omega) (by omega), List.length_append, List.length_append]
        have := digs_len (in_at hin (j := j) (by omega))
        simp only [List.length_singleton]
        omega
  rw [← tx_end]
  exact Nat.le_trans (key 12 (by omega) (by omega)) (by omega)
set_option maxRecDepth 100000 in
set_option maxHeartbeats 1600000 in
theorem stext_any (s : Spc.Sp) (hin : Spc.In s) (w : World) (ht : Tb w) : Calls Tryd.prog 31 #[Spc.val s] w (APos w (.string (txt (Spc.text s)))) := by
  have hb := (Below.refl w.heap.size w).alloc (Nat.le_refl _) (.cells (Spc.cells s) 24)
  have A1 := Lib.hid (spAt_of (heap_alloc_new w (.cells (Spc.cells s) 24)))
  have B1 := Lib.hid hb
  have hz : w.heap.size < (w.alloc (.cells (Spc.cells s) 24)).heap.size := by simp
  have Z1 := Lib.hid hz
  obtain ⟨g, hg⟩ : ∃ g, g = w.heap.size := ⟨_, rfl⟩
  have CN : Hid (∀ g W, Calls Tryd.prog 41 #[.pointer (some ⟨g, 0, none⟩)] W fun e w' => e = .returned (.agg (ptrs g)) ∧ Below W.heap.size W w') := numbers_any
  have CI : Hid (∀ n W, Spc.i64 n → Tb W → Calls Tryd.prog 30 #[.int .i64 n] W (APos W (.string (txt (Spc.digs n))))) := fun n W h h2 => itoa_any n h W h2
  have HT := Lib.hid ht
  have HI := Lib.hid hin
  have TL := Lib.hid (text_short s hin)
  rw [← hg] at A1 Z1
  have G := Lib.hid hg
  clear hb hz hg ht hin
  unfold Spc.val
  go_enter Tryd.func31, Tryd.ntmps31
  go_wp2_with fail
  have hsz : (w.alloc (.cells (Spc.cells s) 24)).heap.size = g + 1 := by rw [G.out]; simp
  rw [← G.out]
  obtain ⟨gw, hgw⟩ : ∃ gw, gw = g + 1 := ⟨_, rfl⟩
  rw [← hgw] at hsz ⊢
  have hgw0 : w.heap.size ≤ gw := by rw [hgw, G.out]; omega
  have GZ := Lib.hid hgw0
  clear hgw hgw0
  generalize w.alloc (.cells (Spc.cells s) 24) = w1 at *
  have hw2 := wd_zero s w1 74 _ rfl
  have hb2 := (Below.refl gw w1).alloc (Nat.le_of_eq hsz.symm) (.cells #[.string ⟨#[]⟩, .string ⟨#[]⟩, .string ⟨#[]⟩, .string ⟨#[]⟩, .string ⟨#[]⟩, .string ⟨#[]⟩, .string ⟨#[]⟩, .string ⟨#[]⟩, .string ⟨#[]⟩, .string ⟨#[]⟩, .string ⟨#[]⟩, .string ⟨#[]⟩] 74)
  rw [hsz] at hw2
  have SZ := Lib.hid hsz
  clear hsz
  generalize w1.alloc (.cells #[.string ⟨#[]⟩, .string ⟨#[]⟩, .string ⟨#[]⟩, .string ⟨#[]⟩, .string ⟨#[]⟩, .string ⟨#[]⟩, .string ⟨#[]⟩, .string ⟨#[]⟩, .string ⟨#[]⟩, .string ⟨#[]⟩, .string ⟨#[]⟩, .string ⟨#[]⟩] 74) = w2 at *
  refine (CN.out g w2).mono ?_
  rintro e w3 ⟨rfl, hb3⟩
  have R3 := Lib.hid (hw2.of_block (hb3.block gw hw2.lt))
  have B3 := Lib.hid (hb2.trans (hb3.mono (by have := hb2.size; have := SZ.out; omega)))
  clear hb3 hw2 hb2 CN
  go_wp2_with fail
  go_loopw [7] (fun i wr => ∃ (j : Nat), j ≤ 12 ∧ i = .int .i64 (j : Nat) ∧ wr.rowIs gw 74 12 (wd s j) ∧ Below gw w1 wr) (fun i _ => 12 - (intOf i).toNat)
  case atStart => exact ⟨0, by omega, rfl, R3.out, B3.out⟩
  case round =>
    obtain ⟨j, hj, rfl, hr, hbr⟩ := hrel
    have R := Lib.hid hr
    have B := Lib.hid hbr
    have BW := Lib.hid (B1.out.trans (hbr.mono GZ.out))
    have AX := Lib.hid (A1.out.below (w' := wr) Z1.out (by rw [SZ.out]; exact hbr))
    clear hr hbr
    by_cases hlt : j < 12
    · have hpj := fun W => ptrs_run g j hlt W
      have hcj := sp_at AX.out hlt
      have C := Lib.hid (CI.out ((Spc.flds s).getD j 0) wr (in_at HI.out hlt) (HT.out.on BW.out))
      have e0 : wd s j j = .string ⟨#[]⟩ := by unfold wd; rw [if_neg (by omega)]
      have HP : Hid (∀ q, q = Spc.digs ((Spc.flds s).getD j 0) → ∀ W : World, W.rowIs gw 74 12 (wd s j) → (W.setCell ⟨gw, j, none⟩ (.string (txt q))).rowIs gw 74 12 (wd s (j + 1))) := fun q hq W hW => wd_put hW (by rw [hq])
      obtain ⟨x, hx⟩ : ∃ x, x = (Spc.flds s).getD j 0 := ⟨_, rfl⟩
      rw [← hx] at hcj C HP
      obtain ⟨q, hq⟩ : ∃ q, q = Spc.digs x := ⟨_, rfl⟩
      rw [← hq] at C
      have HQ := Lib.hid hq
      have i1 : (0 : Int) ≤ (j : Int) := by omega
      have i2 : (j : Int) < 12 := by omega
      clear hx hq
      go_wp2_with fail
      refine C.out.mono ?_
      rintro e w4 ⟨rfl, hb4⟩
      have hr4 := R.out.of_block (hb4.block gw R.out.lt)
      have hc4 := hr4.cell hlt
      have hf4 := hr4.frozen j
      rw [e0] at hc4
      have R4 := Lib.hid hr4
      have B4 := Lib.hid (B.out.trans (hb4.mono (by have := B.out.size; have := SZ.out; omega)))
      clear hb4 hr4 e0
      go_wp2_with fail
      exact ⟨⟨j + 1, by omega, by go_num, HP.out q HQ.out w4 R4.out, B4.out.setCell (Nat.le_refl _) _⟩, by simp [intOf]; omega⟩
    · obtain rfl : j = 12 := by omega
      have CJ := Lib.hid (join_any gw 12 12 ((Spc.flds s).map Spc.digs) (by simp [Spc.flds]) rfl (by simp [Spc.flds]) (Nat.le_trans TL.out (by omega)) wr (fun i hi => by
        rw [List.length_map] at hi
        have hi : i < (Spc.flds s).length := hi
        rw [R.out.cell hi]
        unfold wd
        rw [if_pos (show i < 12 from hi), getD_at (l := (Spc.flds s).map Spc.digs) (by rw [List.length_map]; exact hi), List.getElem_map, getD_at (l := Spc.flds s) hi]) R.out.lt (Nat.le_refl _))
      go_wp2_with fail
      refine CJ.out.mono ?_
      rintro e w5 ⟨rfl, hb5⟩
      have B5 := Lib.hid (BW.out.trans (hb5.mono BW.out.size))
      clear hb5
      go_wp2_with fail
      go_ret
      exact ⟨rfl, B5.out⟩
end Go.Proofs.YtifokcpkamdkeaaDoor
