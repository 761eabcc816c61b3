/-
  The library's calls that package spec makes, told of texts as lists of numbers; a word's number.
-/
import Derived.Test.YtijloajkiannlaaDoorSpLib
import Derived.Test.YtijloajkiannlaaDoorSpRef2
import Derived.Test.YtijloajkiannlaaDoorShelf
import Derived.Lib.SmallJoins
import Derived.Lib.LaidTab
namespace Go.Proofs.YtijloajkiannlaaDoor
open Go.RowKit
set_option linter.unusedSimpArgs false

theorem g_pow : Tryd.prog.globalNamed "internal/strconv.uint64pow10" = some 0 := by kernel_rfl
theorem g_syn : Tryd.prog.globalNamed "strconv.ErrSyntax" = some 2 := by kernel_rfl
/-- What the library's own variables hold, as far as these calls read them. -/
structure Tb (w : World) : Prop where
  pow : Lib.TabIs Tryd.prog w "internal/strconv.uint64pow10" .u64 Lib.pow10Tab
  max : ∃ m, w.cell? ⟨1, 0, none⟩ = some (.int .i64 m)
  err : ∃ tp p, w.var? Tryd.prog "strconv.ErrSyntax" = some #[.iface tp p]
theorem Tb.on {w w' : World} (h : Tb w) (hb : Below w.heap.size w w') : Tb w' := by
  obtain ⟨m, hm⟩ := h.max
  obtain ⟨tp, p, he⟩ := h.err
  exact ⟨Joins.tab_stays g_pow h.pow hb (Nat.le_refl _), ⟨m, (hb.cell (p := ⟨1, 0, none⟩) (block_lt_of_cell hm)).trans hm⟩, ⟨tp, p, Joins.var_stays g_syn he hb (Nat.le_refl _)⟩⟩
theorem below_grown_ (w : World) (k : Nat) (os : Array Obj) : Below w.heap.size w (Go.Sort.grow (w.drewN k) os) :=
  ⟨rfl, rfl, rfl, by show w.heap.size ≤ (w.heap ++ os).size; rw [Array.size_append]; omega, fun j hj => by show (w.heap ++ os)[j]? = _; rw [Array.getElem?_append_left hj]⟩
theorem itoa_any (n : Int) (hn : Spc.i64 n) (w : World) (ht : Tb w) : Calls Tryd.prog 26 #[.int .i64 n] w (APos w (.string (txt (Spc.digs n)))) := by
  refine (Tryd.strconv_Itoa n hn.1 hn.2 w ht.pow).mono ?_
  rintro e w' ⟨rfl, k, os, rfl⟩
  rw [Spc.itoa_txt]
  exact ⟨rfl, below_grown_ _ _ _⟩
theorem trim_any (l : List Nat) (hb : ∀ x ∈ l, x < 256) (w : World) : Calls Tryd.prog 48 #[.string (txt l), .string ⟨#[45]⟩] w fun e w' => ∃ v : ByteArray, v.size = l.length - Spc.from_ l ∧ e = .returned (.string v) ∧ w' = w := by
  refine (Tryd.strings_TrimPrefix (txt l) ⟨#[45]⟩ w).mono ?_
  rintro e w' ⟨rfl, rfl⟩
  refine ⟨_, ?_, rfl, rfl⟩
  have := Spc.trim_len hb
  rw [← Spc.txt_bts] at this
  exact this
theorem atoi_yes (l : List Nat) (n : Int) (hl : l.length ≤ 18) (h : Lib.atoi (Spc.bts l) = some n) (w : World) : Calls Tryd.prog 49 #[.string (txt l)] w (APos w (.tuple #[.int .i64 n, .nilIface])) := by
  refine (Tryd.strconv_Atoi (txt l) n (by rw [txt_size]; exact hl) (by rw [Spc.txt_bts]; exact h) w).mono ?_
  rintro e w' ⟨rfl, t, rfl⟩
  exact ⟨rfl, Joins.below_bytesWorld _ _ _ _ (Nat.le_refl _)⟩
def NoPost (w : World) (e : Ending) (w' : World) : Prop := ∃ N, e = .returned (.tuple #[.int .i64 0, .iface 103 (.pointer (some ⟨N, 0, none⟩))]) ∧ Below w.heap.size w w'
theorem atoi_no (l : List Nat) (hl : l.length ≤ 18) (h : Lib.atoi (Spc.bts l) = none) (w : World) (ht : Tb w) : Calls Tryd.prog 49 #[.string (txt l)] w (NoPost w) := by
  obtain ⟨tp, p, he⟩ := ht.err
  refine (Tryd.strconv_Atoi_err_var (txt l) (by rw [txt_size]; exact hl) (by rw [Spc.txt_bts]; exact h) tp p w he).mono ?_
  rintro e w' ⟨N, rfl, _, _, hb⟩
  exact ⟨N, rfl, hb⟩
theorem atoi_in {l : List Nat} {n : Int} (hl : l.length ≤ 18) (h : Lib.atoi (Spc.bts l) = some n) : Spc.i64 n := by
  have key : ∀ (q : List UInt8) (m : Nat), q.length ≤ 18 → Lib.decNat q = some m → m < 1000000000000000000 := fun q m hq hm => Lib.decFrom_lt18 (Lib.decNat_some hm).2 hq
  have hz : (Spc.bts l).length ≤ 18 := by rw [Spc.bts_length]; exact hl
  generalize Spc.bts l = q at h hz
  unfold Spc.i64
  rcases q with _ | ⟨b, r⟩
  · simp [Lib.atoi] at h
  · rw [List.length_cons] at hz
    unfold Lib.atoi at h
    dsimp only at h
    split at h
    · obtain ⟨m, hm, rfl⟩ := Option.map_eq_some_iff.1 h
      have := key r m (by omega) hm
      omega
    · split at h
      · obtain ⟨m, hm, rfl⟩ := Option.map_eq_some_iff.1 h
        have := key r m (by omega) hm
        omega
      · obtain ⟨m, hm, rfl⟩ := Option.map_eq_some_iff.1 h
        have := key (b :: r) m (by rw [List.length_cons]; omega) hm
        omega
/-- The words of a text, as the library splits it. -/
def SPost (l : List Nat) (w : World) (e : Ending) (w' : World) : Prop := ∃ (g m c : Nat), e = .returned (.slice (some ⟨g, 0, none⟩) m c) ∧ m ≤ c ∧ c ≤ 13 ∧ g < w'.heap.size ∧ Below w.heap.size w w' ∧
  ((Spc.words l).length = 12 → m = 12 ∧ ∀ j, j < 12 → w'.cell? ⟨g, j, none⟩ = some (.string (txt ((Spc.words l).getD j [])))) ∧ ((Spc.words l).length ≠ 12 → m ≠ 12)
theorem splitN_any (l : List Nat) (hb : ∀ x ∈ l, x < 256) (hl : l.length ≤ 1000) (w : World) (ht : Tb w) : Calls Tryd.prog 34 #[.string (txt l), .string ⟨#[32]⟩, .int .i64 13] w (SPost l w) := by
  obtain ⟨m, hm⟩ := ht.max
  have hz := txt_size l
  refine (Tryd.strings_SplitN (txt l) ⟨#[32]⟩ 13 m w (by rw [hz]; omega) hm (by decide) (by omega) (by omega)).mono ?_
  rintro e w' ⟨rfl, rfl⟩
  obtain ⟨ws, hws⟩ : ∃ ws, ws = Lib.splitB ⟨#[32]⟩ 0 (min 13 ((txt l).size + 1) - 1) (txt l) := ⟨_, rfl⟩
  obtain ⟨h1, h2⟩ := Spc.splitN_is l hb ws hws
  have hle := Lib.splitB_length_le ⟨#[32]⟩ 0 (min 13 ((txt l).size + 1) - 1) (txt l)
  rw [← hws] at hle ⊢
  refine ⟨w.heap.size, ws.length, min 13 ((txt l).size + 1), rfl, by omega, by omega, by simp, (Below.refl _ w).alloc (Nat.le_refl _) _, fun h => ?_, h2⟩
  have e := h1 h
  have hlen : ws.length = 12 := by rw [e, List.length_map, h]
  refine ⟨hlen, fun j hj => ?_⟩
  rw [cell_of_row _ _ _ _ _ _ (heap_alloc_new w _)]
  unfold Lib.cellsOf
  rw [List.getElem?_toArray, List.getElem?_append_left (by rw [List.length_map, hlen]; exact hj), e, List.map_map, List.getElem?_map, List.getElem?_eq_getElem (by omega), getD_at (by omega)]
  rfl
set_option maxRecDepth 100000 in
set_option maxHeartbeats 1600000 in
theorem readNumber_any (l : List Nat) (hb : ∀ x ∈ l, x < 256) (hl : l.length ≤ 1000) (w : World) (ht : Tb w) : Calls Tryd.prog 35 #[.string (txt l)] w (APos w (.tuple #[.int .i64 (if Spc.numB l = true then Spc.numV l else 0), .bool (Spc.numB l)])) := by
  have CT := Lib.hid (trim_any l hb w)
  have hz := txt_size l
  have B0 := Lib.hid (Below.refl w.heap.size w)
  have HT := Lib.hid ht
  clear ht
  by_cases h9 : l.length - Spc.from_ l ≤ 9
  · have h99 : l.length ≤ Spc.from_ l + 9 := by omega
    have hf := Spc.from_le l
    have h18 : l.length ≤ 18 := by omega
    cases ha : Lib.atoi (Spc.bts l) with
    | none =>
      have hn : Spc.numB l = false := Spc.num_none ha
      have CA := Lib.hid (atoi_no l h18 ha w HT.out)
      rw [hn]
      clear ha hn hb h99 hf
      go_enter Tryd.func35, Tryd.ntmps35
      go_wp2_with fail
      refine CT.out.mono ?_
      rintro e w1 ⟨v, hv, rfl, rfl⟩
      have hv9 : ¬ 9 < (v.size : Int) := by omega
      go_wp2_with fail
      refine CA.out.mono ?_
      rintro e w2 ⟨N, rfl, hb2⟩
      have B2 := Lib.hid hb2
      clear hb2
      go_wp2_with fail
      go_ret2
      exact ⟨rfl, B2.out⟩
    | some n =>
      have hi := atoi_in h18 ha
      have CA := Lib.hid (atoi_yes l n h18 ha w)
      have CI := Lib.hid (fun W (h : Tb W) => itoa_any n hi W h)
      by_cases hd : Spc.digs n = l
      · obtain ⟨hn, hv⟩ := Spc.num_yes h99 hd
        have hne : (!((txt (Spc.digs n)).toList == (txt l).toList)) = false := by rw [hd, txt_same]; rfl
        rw [hn, hv]
        clear ha hn hb h99 hf hv hi hd
        generalize Spc.digs n = q at *
        go_enter Tryd.func35, Tryd.ntmps35
        go_wp2_with fail
        refine CT.out.mono ?_
        rintro e w1 ⟨v, hv, rfl, rfl⟩
        have hv9 : ¬ 9 < (v.size : Int) := by omega
        go_wp2_with fail
        refine CA.out.mono ?_
        rintro e w2 ⟨rfl, hb2⟩
        have B2 := Lib.hid hb2
        clear hb2
        go_wp2_with fail
        refine (CI.out w2 (HT.out.on B2.out)).mono ?_
        rintro e w3 ⟨rfl, hb3⟩
        have B3 := Lib.hid (B2.out.trans (hb3.mono B2.out.size))
        clear hb3 B2
        go_wp2_with fail
        go_ret2
        exact ⟨rfl, B3.out⟩
      · have hn : Spc.numB l = false := Spc.num_other ha hd
        have hne : (!((txt (Spc.digs n)).toList == (txt l).toList)) = true := by
          rw [txt_eq (fun x hx => (Spc.digs_byte n x hx).1) hb, decide_eq_false hd]; rfl
        rw [hn]
        clear ha hn hb h99 hf hi hd
        generalize Spc.digs n = q at *
        go_enter Tryd.func35, Tryd.ntmps35
        go_wp2_with fail
        refine CT.out.mono ?_
        rintro e w1 ⟨v, hv, rfl, rfl⟩
        have hv9 : ¬ 9 < (v.size : Int) := by omega
        go_wp2_with fail
        refine CA.out.mono ?_
        rintro e w2 ⟨rfl, hb2⟩
        have B2 := Lib.hid hb2
        clear hb2
        go_wp2_with fail
        refine (CI.out w2 (HT.out.on B2.out)).mono ?_
        rintro e w3 ⟨rfl, hb3⟩
        have B3 := Lib.hid (B2.out.trans (hb3.mono B2.out.size))
        clear hb3 B2
        go_wp2_with fail
        go_ret2
        exact ⟨rfl, B3.out⟩
  · have hn : Spc.numB l = false := Spc.num_long (by omega)
    rw [hn]
    clear hn hb
    go_enter Tryd.func35, Tryd.ntmps35
    go_wp2_with fail
    refine CT.out.mono ?_
    rintro e w1 ⟨v, hv, rfl, rfl⟩
    have hv9 : 9 < (v.size : Int) := by omega
    go_wp2_with fail
    go_ret2
    exact ⟨rfl, B0.out⟩
end Go.Proofs.YtijloajkiannlaaDoor
