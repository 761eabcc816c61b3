/-
  The steps of the statements of layer 6: how they are read; kind, early.
-/
import Derived.Test.YtdamnamhbjfnlaaRowsOf
import Derived.Test.YtdamnamhbjfnlaaRows2
import Derived.Test.YtdamnamhbjfnlaaRegion
import Derived.OpenShut
import Derived.Deep.Matrix
import Derived.Lib.MinMax
namespace Go.Proofs.Ytdamnamhbjfnlaa
open Go.RowKit Go.Deep

/-- A step: its kind's number, its number, its payload, its list. -/
abbrev Stj := Int × Int × List Nat × List (List Nat)
abbrev j64In (x : Int) : Prop := -9223372036854775808 ≤ x ∧ x ≤ 9223372036854775807
theorem j64_wf {x : Int} (h : (Lit.int .i64 x).wf = true) : j64In x := by
  simp [Lit.wf, IntKind.min, IntKind.max, IntKind.signed, IntKind.bits] at h
  exact h
def EArg (w : World) (cs : List Value) (t : Stj) : Prop :=
  ∃ A n c A' n' c', cs = [.int .i64 t.1, .int .i64 t.2.1, .slice A n c, .slice A' n' c'] ∧ j64In t.1 ∧ j64In t.2.1 ∧ Sl w A n c t.2.2.1 ∧ SlS w A' n' c' t.2.2.2
theorem EArg.on : ∀ w w' cs t, Below w.heap.size w w' → EArg w cs t → EArg w' cs t := by
  rintro w w' cs t hb ⟨A, n, c, A', n', c', h1, h2, h3, h4, h5⟩
  exact ⟨A, n, c, A', n', c', h1, h2, h3, h4.on hb, h5.on hb⟩
abbrev SlJ (w : World) (A : Option Addr) (n c : Nat) (ts : List Stj) : Prop := SlR 4 EArg w A n c ts
theorem stj_of {H : Type} {enc : TypeId × Value → H} {w : World} {held : Bool} (f : Nat) (cs : List Value) (y : DataW H × List MemPlace) (h : DataW.trod enc Try.prog w 0 (fun _ => true) held f 36 cs = some y) (hl : cs.length = 4) : ∃ t, EArg w cs t := by
  obtain ⟨xs, n, _, _, _, hxl, hf⟩ := DataW.trod_struct Try.underlying36 h
  match cs, hl with
  | [a, b, c, d], _ =>
    have hxl3 : xs.length = 4 := hxl
    have h0 : DataW.trod enc Try.prog w 0 (fun _ => true) held n 3 (([a, b, c, d].drop 0).take (Try.prog.cellsOf 3)) = xs[0]? := hf 0 _ rfl
    have h1 : DataW.trod enc Try.prog w 0 (fun _ => true) held n 3 (([a, b, c, d].drop 1).take (Try.prog.cellsOf 3)) = xs[1]? := hf 1 _ rfl
    have h2 : DataW.trod enc Try.prog w 0 (fun _ => true) held n 33 (([a, b, c, d].drop 2).take (Try.prog.cellsOf 33)) = xs[2]? := hf 2 _ rfl
    have h3 : DataW.trod enc Try.prog w 0 (fun _ => true) held n 34 (([a, b, c, d].drop 3).take (Try.prog.cellsOf 34)) = xs[3]? := hf 3 _ rfl
    have k1 : Try.prog.cellsOf 3 = 1 := by kernel_rfl
    have k2 : Try.prog.cellsOf 33 = 1 := by kernel_rfl
    have k3 : Try.prog.cellsOf 34 = 1 := by kernel_rfl
    rw [k1] at h0 h1
    rw [k2] at h2
    rw [k3] at h3
    rw [List.getElem?_eq_getElem (by omega)] at h0 h1 h2 h3
    obtain ⟨x0, e0, _, w0⟩ := DataW.trod_int (cs := [a]) Try.underlying3 h0
    obtain ⟨x1, e1, _, w1⟩ := DataW.trod_int (cs := [b]) Try.underlying3 h1
    simp at e0 e1
    subst e0 e1
    obtain ⟨A, n, c, l, rfl, hs⟩ : ∃ A n cc l, c = .slice A n cc ∧ Sl w A n cc l := by
      rcases Go.ChangeShapes.open_ints Try.underlying33 Try.underlying5 (by kernel_rfl) (cs := [c]) h2 with ⟨hcs, _⟩ | ⟨x, l, c, zs, hcs, _, hl, hm, hz, _, hcell, hwz⟩
      · simp at hcs
        exact ⟨_, _, _, [], hcs, Sl.none_ w⟩
      · simp at hcs
        obtain ⟨l, hs⟩ := sl_of (w := w) (a := some x) (.inr ⟨_, rfl, hl, hm, by simpa using hz, hcell, hwz⟩)
        exact ⟨_, _, _, l, hcs, hs⟩
    obtain ⟨A', n', c', ls, rfl, hs'⟩ : ∃ A n cc ls, d = .slice A n cc ∧ SlS w A n cc ls := by
      rcases open_int_rows Try.underlying34 Try.underlying33 Try.underlying5 (by kernel_rfl) (by kernel_rfl) (cs := [d]) h3 with ⟨hcs, _⟩ | ⟨x, l, c, A, L, C, Z, hcs, _, hl, hm, _, hrow⟩
      · simp at hcs
        exact ⟨_, _, _, [], hcs, SlS.none_ w⟩
      · simp at hcs
        obtain ⟨ls, hs⟩ := rows_of hl hm hrow
        exact ⟨_, _, _, ls, hcs, hs⟩
    exact ⟨(x0, x1, l, ls), A, n, c, A', n', c', rfl, j64_wf w0, j64_wf w1, hs, hs'⟩
theorem stjCells : Try.prog.cellsOf 36 = 4 := by kernel_rfl
theorem stjInfo : (Try.prog.info? 36).map (fun i => (i.zero, i.size, i.bytes)) = some (some (.agg #[.int .i64 0, .int .i64 0, .slice none 0 0, .slice none 0 0]), 4, 64) := by kernel_rfl
theorem jsteps_of {H : Type} {enc : TypeId × Value → H} {w : World} {held : Bool} {A : Option Addr} {n c : Nat} {f : Nat} {y : DataW H × List MemPlace} (h : DataW.trod enc Try.prog w 0 (fun _ => true) held f 22 [.slice A n c] = some y) : ∃ ts, SlJ w A n c ts :=
  slr_of Try.underlying22 stjCells (by omega) stj_of h

/-- A step's kind. -/
def jkN (k : Int) : Nat := ((IntKind.u64.wrap k).tmod 6).toNat
theorem jkN_eq (k : Int) : (jkN k : Int) = (IntKind.u64.wrap k).tmod 6 ∧ jkN k < 6 := by
  unfold jkN
  rw [IntKind.wrap_u64]
  have h0 : 0 ≤ k % 18446744073709551616 := Int.emod_nonneg _ (by omega)
  generalize k % 18446744073709551616 = x at h0
  rw [Int.tmod_eq_emod_of_nonneg h0]
  omega
theorem jkind_any (k m : Int) (u v : Value) (w : World) :
    Calls Try.prog 14 #[.agg #[.int .i64 k, .int .i64 m, u, v]] w fun e w' => e = .returned (.int .i64 (jkN k : Nat)) ∧ Below w.heap.size w w' := by
  have HK := jkN_eq k
  have hr : ((jkN k : Nat) : Int) = (IntKind.u64.wrap k).tmod 6 := HK.1
  have hb := HK.2
  have hB := (Below.refl w.heap.size w).alloc (Nat.le_refl _) (.cells #[.int .i64 k, .int .i64 m, u, v] 36)
  generalize jkN k = q at *
  have hr2 : (IntKind.u64.wrap k).tmod 6 = (q : Int) := hr.symm
  clear HK hr
  have H := Lib.hid hB
  clear hB
  go_enter Try.func14, Try.ntmps14
  go_wp2_with fail
  go_ret
  exact ⟨rfl, H.out⟩

/-! What early makes. -/
def ESl (w : World) (cs : List Value) (l : List Nat) : Prop := ∃ A n c, cs = [.slice A n c] ∧ Sl w A n c l
def EOut (w0 : World) (b0 : Nat) (w : World) (cs : List Value) (t : Stj) : Prop :=
  ∃ A n c A' n' c' B, cs = [.int .i64 t.1, .int .i64 t.2.1, .slice A n c, .slice A' n' c'] ∧ b0 ≤ B ∧ j64In t.1 ∧ j64In t.2.1 ∧ Sl w0 A n c t.2.2.1 ∧ OwnR 1 ESl 33 w0 w B (.slice A' n' c') t.2.2.2
def GOut (cs : List Value) : Option Nat := match cs[3]? with | some v => v.ownBlock | none => none
theorem stabOut (w0 : World) (b0 : Nat) : Stab w0 (EOut w0 b0) GOut := by
  refine ⟨?_, ?_⟩
  · rintro w w' cs t ⟨A, n, c, A', n', c', B, rfl, h1, h2, h3, h4, h5⟩ hsz hk
    exact ⟨A, n, c, A', n', c', B, rfl, h1, h2, h3, h4, h5.keep fun k hk2 => hk k (.inr hk2) (h5.lt k hk2).2⟩
  · rintro w cs t ⟨A, n, c, A', n', c', B, rfl, h1, h2, h3, h4, h5⟩ i hi
    exact (h5.lt i hi).2
theorem out_from {w0 w : World} {b0 : Nat} : ∀ cs t, EOut w0 b0 w cs t → ∀ i, GOut cs = some i → b0 ≤ i := by
  rintro cs t ⟨A, n, c, A', n', c', B, rfl, h1, h2, h3, h4, h5⟩ i hi
  exact Nat.le_trans h1 (h5.lt i hi).1
def jtrim (t : Stj) : Stj := (t.1, t.2.1, t.2.2.1.take 20, (t.2.2.2.take 5).map (·.take 20))
def jearlyL (ts : List Stj) : List Stj := (ts.take 40).map jtrim
theorem jtrim_snoc {ts : List Stj} {j : Nat} {t : Stj} (h : ts[j]? = some t) : (ts.take (j + 1)).map jtrim = (ts.take j).map jtrim ++ [jtrim t] := by
  rw [List.take_add_one, h]; simp
theorem jearly_len (ts : List Stj) : (jearlyL ts).length ≤ 40 := by unfold jearlyL; rw [List.length_map, List.length_take]; omega
theorem jearly_small (ts : List Stj) (j : Nat) (t : Stj) (h : (jearlyL ts)[j]? = some t) : t.2.2.1.length ≤ 20 ∧ t.2.2.2.length ≤ 5 ∧ ∀ p ∈ t.2.2.2, p.length ≤ 20 := by
  unfold jearlyL at h
  rw [List.getElem?_map] at h
  obtain ⟨y, _, rfl⟩ := Option.map_eq_some_iff.1 h
  refine ⟨?_, ?_, ?_⟩
  · show (y.2.2.1.take 20).length ≤ 20
    rw [List.length_take]; omega
  · show ((y.2.2.2.take 5).map _).length ≤ 5
    rw [List.length_map, List.length_take]; omega
  · intro p hp
    obtain ⟨q, _, rfl⟩ := List.mem_map.1 hp
    rw [List.length_take]; omega
end Go.Proofs.Ytdamnamhbjfnlaa
