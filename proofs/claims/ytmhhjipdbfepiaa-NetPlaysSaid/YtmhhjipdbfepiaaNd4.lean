/-
  Package net: All, a copy of the row; the messages of a unit. No condition.
-/
import Derived.Test.YtmhhjipdbfepiaaNd3
import Derived.Shelf.Abstract
namespace Go.Proofs.Ytmhhjipdbfepiaa
open Go.RowKit Go.Deep
set_option maxRecDepth 100000
set_option linter.unusedSimpArgs false
set_option linter.unusedVariables false

theorem own_none {T : Type} {enc : T → List Value} {k : Nat} {e : TypeId} (w : World) : OwF enc k e (w.alloc (.cells #[] e)) w.heap.size (.slice (some ⟨w.heap.size, 0, none⟩) 0 0) [] := ⟨by simp, .inr ⟨w.heap.size, 0, #[], rfl, Nat.le_refl _, heap_alloc_new w _, Nat.le_refl _, Nat.zero_le _, by simp, by simp⟩⟩
theorem slnil {T : Type} {enc : T → List Value} {w : World} {n c : Nat} {l : List T} (h : SlF enc w none n c l) : l = [] ∧ n = 0 ∧ c = 0 := by
  have h0 := h.nil rfl
  have h1 := h.cap
  have h2 := h.len
  exact ⟨List.eq_nil_of_length_eq_zero (by omega), by omega, h0⟩
/-- A row of messages of the call's own. -/
def NList (l : List Nt.M) (w : World) (e : Ending) (w' : World) : Prop := ∃ A c, e = .returned (.slice A l.length c) ∧ OwF Nt.mC 6 32 w' w.heap.size (.slice A l.length c) l ∧ Below w.heap.size w w'
theorem nclone_any (w : World) (A : Option Addr) (n c : Nat) (l : List Nt.M) (hs : SlF Nt.mC w A n c l) (hn : n ≤ 1000) : Calls Try.prog 38 #[.slice A n c] w (NList l w) := by
  have hl := hs.len
  have hcap := hs.cap
  have hmax := hs.max
  have hc63 : (c : Int) ≤ 9223372036854775807 := by unfold maxLen at hmax; omega
  have hnil := fun W a n c => Lib.run_eql_slice_nil (P := Try.prog) W 26 32 a n c 0 0 Try.underlying26
  cases A with
  | none =>
    obtain ⟨rfl, rfl, rfl⟩ := slnil hs
    clear hl hcap hmax hc63 hs hn
    go_enter Try.func38, Try.ntmps38
    go_wp2_with fail
    go_ret
    exact ⟨none, 0, rfl, OwF.none_ _ _ _, Below.refl _ _⟩
  | some ad =>
    have O0 := Lib.hid (own_none (enc := Nt.mC) (k := 6) (e := 32) w)
    have hb1 : Below w.heap.size w (w.alloc (.cells #[] 32)) := (Below.refl _ _).alloc (Nat.le_refl _) _
    have S1 := Lib.hid (hs.on hb1)
    have B1 := Lib.hid hb1
    have HN := Lib.hid hn
    have HL := Lib.hid hl
    clear hs hn hl hb1 hmax
    go_enter Try.func38, Try.ntmps38
    go_upto_region 3 with fail
    go_wp2_with (at_builtin; refine wpList_append_all Nt.mC_len Nt.mC_one Try.underlying26 msg_info rfl (by omega) rfl (.tmp 5) (.tmp 6) rfl w.heap.size _ [] l rfl O0.out rfl S1.out (by have := HN.out; have := HL.out; simp; unfold maxLen; omega) (by have := HN.out; have := HL.out; simp; omega) (by have := B1.out.size; omega) ?_; intro v1 w1 ho1 hb1 _ _; have O1 := Lib.hid ho1; have B2 := Lib.hid hb1; clear ho1 hb1)
    go_ret
    obtain ⟨A9, c9, hf⟩ := O1.out.form
    have ho := O1.out
    rw [hf] at ho ⊢
    rw [List.nil_append] at ho
    exact ⟨A9, c9, rfl, ho, B1.out.trans B2.out⟩
theorem nall_any (w : World) (p : Option Addr) (l : List Nt.M) (se lo : Int) (h : NAsk w p l se lo) (hl : l.length ≤ 1000) : Calls Try.prog 24 #[.pointer p] w (NList l w) := by
  cases p with
  | none =>
    obtain ⟨rfl, rfl, rfl⟩ := h.no rfl
    go_enter Try.func24, Try.ntmps24
    go_wp2_with fail
    go_ret
    exact ⟨none, 0, rfl, OwF.none_ _ _ _, Below.refl _ _⟩
  | some a =>
    obtain ⟨r, c, A, k, rfl, ⟨x0, x1, x2, x3, xf, xl⟩, hs⟩ := h.yes a rfl
    have C := Lib.hid (nclone_any w A l.length k l hs hl)
    clear h hs
    generalize hn : l.length = n at *
    have HN := Lib.hid hn
    clear hn
    go_enter Try.func24, Try.ntmps24
    go_wp2_with (go_at_call 38; (with_reducible refine C.out.mono ?_); rintro e w1 ⟨A1, c1, rfl, ho, hb⟩; have O1 := Lib.hid ho; have B1 := Lib.hid hb; clear ho hb)
    go_ret
    exact ⟨A1, c1, rfl, O1.out, B1.out⟩
/-- What Of's closure tells: is the message another unit's? -/
theorem nother_any (m : Nt.M) (u : Int) (g : Nat) (w : World) (hg : w.heap[g]? = some (.cells #[.int .i64 u] 3 (0, 0))) : Calls Try.prog 40 #[Nt.val m, .pointer (some ⟨g, 0, none⟩)] w (NPos w (.bool (!decide (m.u = u)))) := by
  have hb1 : Below w.heap.size w (w.alloc (.cells (Nt.cs m) 32)) := (Below.refl _ _).alloc (Nat.le_refl _) _
  have B1 := Lib.hid hb1
  have hg1 := blk_on hg hb1
  have cg : (w.alloc (.cells (Nt.cs m) 32)).cell? ⟨g, 0, none⟩ = some (.int .i64 u) := by rw [cell_of_row _ g 0 _ _ _ hg1]; rfl
  obtain ⟨c0, c1, c2, c3, c4, c5, cl⟩ := (NtAt.new w m).cs
  clear hb1 hg1 hg
  obtain ⟨k, e, s, mu, v, t⟩ := m
  simp only at *
  have E : Hid ((!decide (mu = u)) = (mu != u)) := by show _ = _; rw [Bool.eq_iff_iff]; simp
  rw [E.out]
  go_enter Try.func40, Try.ntmps40
  go_upto_region 1 with fail
  generalize w.alloc (.cells (Nt.cs ⟨k, e, s, mu, v, t⟩) 32) = w1 at *
  obtain ⟨n, hn⟩ : ∃ n, n = w.heap.size := ⟨_, rfl⟩
  rw [← hn] at c0 c1 c2 c3 c4 c5 cl ⊢
  clear hn
  go_wp2_with fail
  go_ret
  exact ⟨rfl, B1.out⟩
end Go.Proofs.Ytmhhjipdbfepiaa
