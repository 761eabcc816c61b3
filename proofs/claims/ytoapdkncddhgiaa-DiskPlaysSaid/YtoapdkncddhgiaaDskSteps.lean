/-
  The steps of the statements of layer 5: how they are read; kind, early.
-/
import Derived.Test.YtoapdkncddhgiaaRowsOf
import Derived.Test.YtoapdkncddhgiaaDskLives
import Derived.OpenShut
namespace Go.Proofs.Ytoapdkncddhgiaa
open Go.RowKit

/-- A step: its kind's number, its number, its bytes. -/
abbrev Stp := Int × Int × List Nat
abbrev i64In (x : Int) : Prop := -9223372036854775808 ≤ x ∧ x ≤ 9223372036854775807
def EStp (w : World) (cs : List Value) (t : Stp) : Prop :=
  ∃ A n c, cs = [.int .i64 t.1, .int .i64 t.2.1, .slice A n c] ∧ i64In t.1 ∧ i64In t.2.1 ∧ Sl w A n c t.2.2
theorem EStp.on : ∀ w w' cs t, Below w.heap.size w w' → EStp w cs t → EStp w' cs t := by
  rintro w w' cs t hb ⟨A, n, c, h1, h2, h3, h4⟩
  exact ⟨A, n, c, h1, h2, h3, h4.on hb⟩
theorem i64_wf {x : Int} (h : (Lit.int .i64 x).wf = true) : i64In x := by
  simp [Lit.wf, IntKind.min, IntKind.max, IntKind.signed, IntKind.bits] at h
  exact h
abbrev SlT (w : World) (A : Option Addr) (n c : Nat) (ts : List Stp) : Prop := SlR 3 EStp w A n c ts
theorem stp_of {H : Type} {enc : TypeId × Value → H} {w : World} {held : Bool} (f : Nat) (cs : List Value) (y : DataW H × List MemPlace) (h : DataW.trod enc Try.prog w 0 (fun _ => true) held f 32 cs = some y) (hl : cs.length = 3) : ∃ t, EStp w cs t := by
  obtain ⟨xs, n, _, _, _, hxl, hf⟩ := DataW.trod_struct Try.underlying32 h
  match cs, hl with
  | [a, b, c], _ =>
    have hxl3 : xs.length = 3 := hxl
    have h0 : DataW.trod enc Try.prog w 0 (fun _ => true) held n 3 (([a, b, c].drop 0).take (Try.prog.cellsOf 3)) = xs[0]? := hf 0 _ rfl
    have h1 : DataW.trod enc Try.prog w 0 (fun _ => true) held n 3 (([a, b, c].drop 1).take (Try.prog.cellsOf 3)) = xs[1]? := hf 1 _ rfl
    have h2 : DataW.trod enc Try.prog w 0 (fun _ => true) held n 30 (([a, b, c].drop 2).take (Try.prog.cellsOf 30)) = xs[2]? := hf 2 _ rfl
    have k1 : Try.prog.cellsOf 3 = 1 := by kernel_rfl
    have k2 : Try.prog.cellsOf 30 = 1 := by kernel_rfl
    rw [k1] at h0 h1
    rw [k2] at h2
    rw [List.getElem?_eq_getElem (by omega)] at h0 h1 h2
    obtain ⟨x0, e0, _, w0⟩ := DataW.trod_int (cs := [a]) Try.underlying3 h0
    obtain ⟨x1, e1, _, w1⟩ := DataW.trod_int (cs := [b]) Try.underlying3 h1
    simp at e0 e1
    subst e0 e1
    obtain ⟨A, n, c, l, rfl, hs⟩ : ∃ A n cc l, c = .slice A n cc ∧ Sl w A n cc l := by
      rcases Go.ChangeShapes.open_ints Try.underlying30 Try.underlying5 (by kernel_rfl) (cs := [c]) h2 with ⟨hcs, _⟩ | ⟨x, l, c, zs, hcs, _, hl, hm, hz, _, hcell, hwz⟩
      · simp at hcs
        exact ⟨_, _, _, [], hcs, Sl.none_ w⟩
      · simp at hcs
        obtain ⟨l, hs⟩ := sl_of (w := w) (a := some x) (.inr ⟨_, rfl, hl, hm, by simpa using hz, hcell, hwz⟩)
        exact ⟨_, _, _, l, hcs, hs⟩
    exact ⟨(x0, x1, l), A, n, c, rfl, i64_wf w0, i64_wf w1, hs⟩
theorem stpCells : Try.prog.cellsOf 32 = 3 := by kernel_rfl
theorem stpInfo : (Try.prog.info? 32).map (fun i => (i.zero, i.size, i.bytes)) = some (some (.agg #[.int .i64 0, .int .i64 0, .slice none 0 0]), 3, 40) := by kernel_rfl
theorem steps_of {H : Type} {enc : TypeId × Value → H} {w : World} {held : Bool} {A : Option Addr} {n c : Nat} {f : Nat} {y : DataW H × List MemPlace} (h : DataW.trod enc Try.prog w 0 (fun _ => true) held f 22 [.slice A n c] = some y) : ∃ ts, SlT w A n c ts :=
  slr_of Try.underlying22 stpCells (by omega) stp_of h

/-- A step's kind. -/
def kdN (k : Int) : Nat := ((IntKind.u64.wrap k).tmod 6).toNat
theorem kdN_eq (k : Int) : (kdN k : Int) = (IntKind.u64.wrap k).tmod 6 ∧ kdN k < 6 := by
  unfold kdN
  rw [IntKind.wrap_u64]
  have h0 : 0 ≤ k % 18446744073709551616 := Int.emod_nonneg _ (by omega)
  generalize k % 18446744073709551616 = x at h0
  rw [Int.tmod_eq_emod_of_nonneg h0]
  omega
theorem kind_any (k m : Int) (A : Option Addr) (n c : Nat) (w : World) :
    Calls Try.prog 13 #[.agg #[.int .i64 k, .int .i64 m, .slice A n c]] w fun e w' => e = .returned (.int .i64 (kdN k : Nat)) ∧ Below w.heap.size w w' := by
  have HK := kdN_eq k
  have hr : ((kdN k : Nat) : Int) = (IntKind.u64.wrap k).tmod 6 := HK.1
  have hb := HK.2
  have hB := (Below.refl w.heap.size w).alloc (Nat.le_refl _) (.cells #[.int .i64 k, .int .i64 m, .slice A n c] 32)
  generalize kdN k = q at *
  have hr2 : (IntKind.u64.wrap k).tmod 6 = (q : Int) := hr.symm
  clear HK hr
  have H := Lib.hid hB
  clear hB
  go_enter Try.func13, Try.ntmps13
  go_wp2_with fail
  go_ret
  exact ⟨rfl, H.out⟩

/-- The first 40 bytes of a step's; the first 80 steps. -/
def trim (t : Stp) : Stp := (t.1, t.2.1, t.2.2.take 40)
def earlyL (ts : List Stp) : List Stp := (ts.take 80).map trim
theorem trim_snoc {ts : List Stp} {j : Nat} {t : Stp} (h : ts[j]? = some t) : (ts.take (j + 1)).map trim = (ts.take j).map trim ++ [trim t] := by
  rw [List.take_add_one, h]; simp
theorem early_len (ts : List Stp) : (earlyL ts).length ≤ 80 := by unfold earlyL; rw [List.length_map, List.length_take]; omega
theorem early_forty (ts : List Stp) (j : Nat) (t : Stp) (h : (earlyL ts)[j]? = some t) : t.2.2.length ≤ 40 := by
  unfold earlyL at h
  rw [List.getElem?_map] at h
  obtain ⟨y, _, rfl⟩ := Option.map_eq_some_iff.1 h
  show (y.2.2.take 40).length ≤ 40
  rw [List.length_take]
  omega
def EarPost (w0 : World) (ts : List Stp) (w : World) (e : Ending) (w' : World) : Prop :=
  ∃ A c, e = .returned (.slice A (earlyL ts).length c) ∧ OwnR 3 EStp 32 w0 w' w.heap.size (.slice A (earlyL ts).length c) (earlyL ts) ∧ Below w.heap.size w w'
set_option maxRecDepth 100000 in
set_option maxHeartbeats 1600000 in
theorem early_any (n c : Nat) (A : Option Addr) (ts : List Stp) (w0 w : World) (h : SlT w0 A n c ts) (hb0 : Below w0.heap.size w0 w) :
    Calls Try.prog 12 #[.slice A n c] w (EarPost w0 ts w) := by
  have H := Lib.hid h
  have B0 := Lib.hid hb0
  have hn : n = ts.length := h.len
  have hcap := h.cap
  have hmax := h.max
  unfold maxLen at hmax
  have HN := Lib.hid hn
  clear h hn hb0
  go_enter Try.func12, Try.ntmps12
  go_wp2_with fail
  go_loopw [3, 4, 5] (fun v i _ wr => ∃ j : Nat, j ≤ n ∧ j ≤ 80 ∧ i = .int .i64 j ∧ OwnR 3 EStp 32 w0 wr w.heap.size v ((ts.take j).map trim) ∧ Below w.heap.size w wr) (fun _ i _ _ => 80 - (intOf i).toNat)
  case atStart => exact ⟨0, by omega, by omega, rfl, OwnR.none_ _ _ _ _, Below.refl _ _⟩
  case round =>
    obtain ⟨j, hj, hj80, rfl, ho, hb⟩ := hrel
    have O := Lib.hid ho
    have B := Lib.hid hb
    have BB := Lib.hid (B0.out.trans (hb.mono B0.out.size))
    clear ho hb
    by_cases hlt : j < n ∧ j < 80
    · obtain ⟨hl1, hl2⟩ := hlt
      obtain ⟨t, ht⟩ : ∃ t, ts[j]? = some t := ⟨_, List.getElem?_eq_getElem (by have := HN.out; omega)⟩
      obtain ⟨b, o, cs, rfl, hbb, _, hcells, A2, n2, c2, rfl, hk1, hk2, hs⟩ := H.out.rd j t ht
      have g0 := (BB.out.cell (p := ⟨b, o + j * 3 + 0, none⟩) hbb).trans (hcells 0 (by omega))
      have g1 := (BB.out.cell (p := ⟨b, o + j * 3 + 1, none⟩) hbb).trans (hcells 1 (by omega))
      have g2 := (BB.out.cell (p := ⟨b, o + j * 3 + 2, none⟩) hbb).trans (hcells 2 (by omega))
      simp only [List.getElem?_cons_zero, List.getElem?_cons_succ, Nat.add_zero] at g0 g1 g2
      have hmn : min (n2 : Int) 40 = ((min n2 40 : Nat) : Int) := by omega
      have hmc : min n2 40 ≤ c2 := by have := hs.cap; omega
      have HT := Lib.hid ht
      have TR := Lib.hid (trim_snoc ht)
      have ET : Hid (EStp w0 [.int .i64 t.1, .int .i64 t.2.1, .slice A2 (min n2 40) c2] (trim t)) := ⟨A2, _, c2, rfl, hk1, hk2, by have := hs.few 40; exact this⟩
      clear hcells hs hk1 hk2 ht
      generalize min n2 40 = m2 at *
      have B1 := Lib.hid (B.out.alloc B.out.size (.cells #[.int .i64 t.1, .int .i64 t.2.1, .slice A2 m2 c2] 32))
      have O1 := Lib.hid (O.out.below ((Below.refl _ _).alloc (Nat.le_refl _) (.cells #[.int .i64 t.1, .int .i64 t.2.1, .slice A2 m2 c2] 32)))
      have hl2' : (j : Int) < 80 := by omega
      have LT : Hid (((ts.take j).map trim).length + 1 ≤ 80) := by show _ ≤ _; rw [List.length_map, List.length_take]; omega
      have S0 : (wr.alloc (.cells #[.int .i64 t.1, .int .i64 t.2.1, .slice A2 m2 c2] 32)).heap.size = wr.heap.size + 1 := by simp
      have SZ := Lib.hid S0
      clear S0
      obtain ⟨i0, hi0, hz0, hz1, hz2⟩ := info_parts stpInfo
      have HI := Lib.hid hi0
      have HZ0 := Lib.hid hz0
      have HZ1 := Lib.hid hz1
      have HZ2 := Lib.hid hz2
      clear hi0 hz0 hz1 hz2
      go_wp2_with (at_builtin; refine wpList_append_elem Try.underlying22 HI.out HZ0.out HZ1.out HZ2.out rfl (by decide) rfl (.tmp 28) (.tmp 30) rfl w.heap.size _ _ rfl O1.out [.int .i64 t.1, .int .i64 t.2.1, .slice A2 m2 c2] (trim t) rfl (by intro u hu; simp at hu; rcases hu with rfl | rfl | rfl <;> rfl) ET.out (by rw [SZ.out]; rfl) (by have := LT.out; unfold maxLen; omega) (by have := LT.out; omega) B1.out.size ?_; intro v2 w2 hown2 hb2 _; have O2 := Lib.hid hown2; have B2 := Lib.hid hb2; clear hown2 hb2)
      exact ⟨⟨j + 1, by omega, by omega, by go_num, by rw [TR.out]; exact O2.out, B1.out.trans B2.out⟩, by simp [intOf]; omega⟩
    · have e : earlyL ts = (ts.take j).map trim := by
        unfold earlyL
        have := HN.out
        by_cases h1 : j < n
        · rw [show j = 80 from by omega]
        · rw [List.take_of_length_le (by omega), List.take_of_length_le (by omega)]
      have HE := Lib.hid e
      obtain ⟨A2, c2, rfl, hs⟩ := O.out.slr EStp.on BB.out
      have HS := O
      clear e hs
      have hor : (j < n ∧ ¬ (j : Int) < 80) ∨ ¬ j < n := by omega
      clear hlt
      obtain ⟨q, hq⟩ : ∃ q, q = ((ts.take j).map trim).length := ⟨_, rfl⟩
      have HQ := Lib.hid hq
      rw [← hq]
      clear hq
      rcases hor with ⟨h1, h2⟩ | h1
      all_goals
        go_wp2_with fail
        go_ret
        refine ⟨A2, c2, ?_, ?_, B.out⟩
        · rw [HE.out, ← HQ.out]; rfl
        · rw [HE.out]; exact HS.out
end Go.Proofs.Ytoapdkncddhgiaa
