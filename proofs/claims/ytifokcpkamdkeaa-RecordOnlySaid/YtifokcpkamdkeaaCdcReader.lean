/-
  A reader of package codec: Read, Err, Left, End, fail, take: what they answer, and what they leave, from any world.
-/
import Derived.Test.YtifokcpkamdkeaaCdcWrite
import Derived.WalkMore
import Derived.ScopeJumps
namespace Go.Proofs.Ytifokcpkamdkeaa
open Go.RowKit Cdc

/-- In block r lies a reader whose state is s; its bytes lie in a block ahead of it. -/
def Rdr (w : World) (r : Nat) (s : St) : Prop :=
  ∃ A c, w.heap[r]? = some (.cells #[.slice A s.l.length c, .int .i64 s.e] 78 (0, 0)) ∧ Rd w r A s.l ∧ s.l.length ≤ c ∧ c ≤ maxLen ∧ (A = none → c = 0)
theorem Rdr.lt {w : World} {r : Nat} {s : St} (h : Rdr w r s) : r < w.heap.size := by
  obtain ⟨A, c, h, _⟩ := h
  exact (Array.getElem?_eq_some_iff.1 h).1
theorem Rdr.below {w w' : World} {r : Nat} {s : St} (h : Rdr w r s) (hb : Below w.heap.size w w') : Rdr w' r s := by
  have hr := h.lt
  obtain ⟨A, c, h, h2, h3⟩ := h
  exact ⟨A, c, by rw [hb.block r hr]; exact h, h2.below (hb.mono (by omega)), h3⟩
/-- What a walk asks of a reader. -/
structure Fields (w : World) (r : Nat) (s : St) (A : Option Addr) (c : Nat) : Prop where
  blk : w.heap[r]? = some (.cells #[.slice A s.l.length c, .int .i64 s.e] 78 (0, 0))
  left : w.cell? ⟨r, 0, none⟩ = some (.slice A s.l.length c)
  err : w.cell? ⟨r, 1, none⟩ = some (.int .i64 s.e)
  f0 : w.frozen? ⟨r, 0, none⟩ = false
  f1 : w.frozen? ⟨r, 1, none⟩ = false
  rd : Rd w r A s.l
  cap : s.l.length ≤ c
  max : c ≤ maxLen
  nil : A = none → c = 0
theorem Rdr.fields {w : World} {r : Nat} {s : St} (h : Rdr w r s) : ∃ A c, Fields w r s A c := by
  obtain ⟨A, c, h, h2, h3, h4, h5⟩ := h
  exact ⟨A, c, h, by rw [cell_of_row w r 0 _ _ _ h]; rfl, by rw [cell_of_row w r 1 _ _ _ h]; rfl, frozen_of_row w r 0 _ _ h, frozen_of_row w r 1 _ _ h, h2, h3, h4, h5⟩
theorem rd_set {w : World} {r o : Nat} {A : Option Addr} {l : List Nat} (h : Rd w r A l) (v : Value) : Rd (w.setCell ⟨r, o, none⟩ v) r A l :=
  h.keep fun p hp => World.cell?_of_block (w := w) (Below.heap_setCell _ _ _ _ (by simp; omega))

theorem rdr_lost {w : World} {r : Nat} {s : St} {A : Option Addr} {c : Nat} (h : Fields w r s A c) : Rdr ((w.setCell ⟨r, 0, none⟩ (.slice none 0 0)).setCell ⟨r, 1, none⟩ (.int .i64 2)) r lost := by
  refine ⟨none, 0, ?_, Rd.empty _ _ _, Nat.le_refl _, Nat.zero_le _, fun _ => rfl⟩
  have h1 := heap_setCell_same w r 0 _ _ (.slice none 0 0) h.blk
  have h2 := heap_setCell_same (w.setCell ⟨r, 0, none⟩ (.slice none 0 0)) r 1 _ _ (.int .i64 2) h1
  rw [h2]; rfl
theorem rdr_left {w : World} {r c' : Nat} {s : St} {A A' : Option Addr} {c : Nat} {l : List Nat} (h : Fields w r s A c) (hr : Rd w r A' l) (h1 : l.length ≤ c') (h2 : c' ≤ maxLen) (h3 : A' = none → c' = 0) : Rdr (w.setCell ⟨r, 0, none⟩ (.slice A' l.length c')) r ⟨l, s.e⟩ := by
  refine ⟨A', c', ?_, rd_set hr _, h1, h2, h3⟩
  rw [heap_setCell_same w r 0 _ _ _ h.blk]; rfl

theorem err_any (w : World) (r : Nat) (s : St) (h : Rdr w r s) :
    Calls Try.prog 35 #[.pointer (some ⟨r, 0, none⟩)] w fun e w' => e = .returned (.int .i64 s.e) ∧ w = w' := by
  obtain ⟨A, c, hf⟩ := h.fields
  have hc := hf.err
  clear hf h
  generalize s.e = e at *
  go_enter Try.func35, Try.ntmps35
  go_wp2_with fail
  go_ret
  exact ⟨rfl, rfl⟩
theorem left_any (w : World) (r : Nat) (s : St) (h : Rdr w r s) :
    Calls Try.prog 41 #[.pointer (some ⟨r, 0, none⟩)] w fun e w' => e = .returned (.int .i64 (s.l.length : Nat)) ∧ w = w' := by
  obtain ⟨A, c, hf⟩ := h.fields
  have hc := hf.left
  clear hf h
  generalize s.l.length = n at *
  go_enter Try.func41, Try.ntmps41
  go_wp2_with fail
  go_ret
  exact ⟨rfl, rfl⟩
theorem end_any (w : World) (r : Nat) (s : St) (h : Rdr w r s) :
    Calls Try.prog 19 #[.pointer (some ⟨r, 0, none⟩)] w fun e w' => e = .returned (.int .i64 (endE s)) ∧ w = w' := by
  have H := Lib.hid h; clear h
  have HE : Hid (endE s = if 0 < s.l.length then 2 else s.e) := rfl
  have HL := Lib.hid (left_any w r s H.out)
  generalize s.l.length = n at HE HL
  by_cases h0 : 0 < n
  · go_enter Try.func19, Try.ntmps19
    go_wp2_with fail
    refine HL.out.mono ?_
    rintro e w1 ⟨rfl, rfl⟩
    go_wp2_with fail
    go_ret
    exact ⟨ret_int (by rw [HE.out, if_pos h0]), rfl⟩
  · go_enter Try.func19, Try.ntmps19
    go_wp2_with fail
    refine HL.out.mono ?_
    rintro e w1 ⟨rfl, rfl⟩
    go_wp2_with fail
    refine (err_any w r s H.out).mono ?_
    rintro e w1 ⟨rfl, rfl⟩
    go_wp2_with fail
    go_ret
    exact ⟨ret_int (by rw [HE.out, if_neg h0]), rfl⟩
theorem fail_any (w : World) (r : Nat) (s : St) (h : Rdr w r s) :
    Calls Try.prog 37 #[.pointer (some ⟨r, 0, none⟩)] w fun e w' => e = .returned (.tuple #[]) ∧ Rdr w' r lost ∧ w.grownBy w' (some r) := by
  obtain ⟨A, c, hf⟩ := h.fields
  have c0 := hf.left
  have c1 := hf.err
  have f0 := hf.f0
  have f1 := hf.f1
  have HL := Lib.hid (rdr_lost hf)
  clear hf h
  generalize s.e = e at *
  generalize s.l.length = n at *
  go_enter Try.func37, Try.ntmps37
  go_wp2_with fail
  go_end0
  exact ⟨rfl, HL.out, grown_trans (grown_set _ _ _ _) (grown_set _ _ _ _)⟩
def ReadPost (l : List Nat) (w : World) (e : Ending) (w' : World) : Prop := ∃ r, e = .returned (.pointer (some ⟨r, 0, none⟩)) ∧ Rdr w' r ⟨l, 0⟩ ∧ w.heap.size ≤ r ∧ Below w.heap.size w w'
theorem reader_any (n c : Nat) (A : Option Addr) (l : List Nat) (w : World) (hs : Sl w A n c l) (hl : n ≤ 1000000) :
    Calls Try.prog 13 #[.slice A n c] w (ReadPost l w) := by
  have HS := Lib.hid hs; clear hs
  go_enter Try.func13, Try.ntmps13
  go_wp2_with fail
  refine (renew_any n c 0 A l w HS.out hl (by omega)).mono ?_
  rintro e w1 ⟨v, rfl, ho, hb⟩
  have O := Lib.hid ho; clear ho
  have B := Lib.hid hb; clear hb
  obtain ⟨A2, c2, hv, h2⟩ := O.out.sl
  subst hv
  have H2 := Lib.hid h2; clear h2
  have HB := Lib.hid B.out.size
  go_wp2_with fail
  go_ret
  refine ⟨w1.heap.size, rfl, ⟨A2, c2, heap_alloc_new w1 _, ?_, H2.out.cap, H2.out.max, H2.out.nil⟩, HB.out, B.out.alloc HB.out _⟩
  exact H2.out.rd.below ((Below.refl _ _).alloc (Nat.le_refl _) _)
end Go.Proofs.Ytifokcpkamdkeaa
