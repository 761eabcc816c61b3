/-
  Package worker in memory: a block of two cells, and a map of slots by unit. Slot, Seen, isCommand. No condition.
-/
import Derived.Test.YtgljepjflpijiaaWpMath
import Derived.Test.YtgljepjflpijiaaSuMem
import Derived.Test.YtgljepjflpijiaaNtMem
import Derived.Test.YtgljepjflpijiaaWkC
namespace Go.Proofs.Ytgljepjflpijiaa
open Go.RowKit Go.Deep Go.Maps Go.WideMaps
set_option linter.unusedSimpArgs false
set_option linter.unusedVariables false

def suD (s : Su.S) : DataW Unit := .agg [.lit (.int .i64 s.st), .lit (.int .i64 s.v), .lit (.int .i64 s.wa), .lit (.int .i64 s.sq)]
def suR : Value → Option (DataW Unit × List MemPlace)
  | .agg ⟨[.int .i64 a, .int .i64 b, .int .i64 c, .int .i64 d]⟩ => some (suD ⟨a, b, c, d⟩, [])
  | _ => none
theorem suR_inv {v : Value} {z : DataW Unit × List MemPlace} (h : suR v = some z) : ∃ s, v = suV s ∧ z = (suD s, []) := by
  unfold suR at h
  split at h
  · rename_i a b c d
    exact ⟨⟨a, b, c, d⟩, rfl, (Option.some.inj h).symm⟩
  · cases h
theorem suD_inj {s t : Su.S} (h : suD s = suD t) : s = t := by
  obtain ⟨a, b, c, d⟩ := s
  obtain ⟨a', b', c', d'⟩ := t
  unfold suD at h
  injection h with h
  simp only [List.cons.injEq, and_true] at h
  obtain ⟨h1, h2, h3, h4⟩ := h
  injection h1 with h1; injection h1 with _ h1
  injection h2 with h2; injection h2 with _ h2
  injection h3 with h3; injection h3 with _ h3
  injection h4 with h4; injection h4 with _ h4
  rw [show a = a' from h1, show b = b' from h2, show c = c' from h3, show d = d' from h4]
theorem zero_slot (w : World) : (zeroValue 46).run Try.prog w = .ok (suV Wk.z4) w := by kernel_rfl
theorem wf_i64 {k : Int} (h : Nt.i64 k) : (Lit.int .i64 k).wf = true := by
  show (decide (IntKind.i64.min ≤ k) && decide (k ≤ IntKind.i64.max)) = true
  rw [Bool.and_eq_true, decide_eq_true_eq, decide_eq_true_eq]
  exact h
/-- Maps of slots by their units. -/
def SM : MapW Try.prog 3 46 63 Int Su.S where
  kv := .int .i64
  kl := .int .i64
  ok := fun a => (Lit.int .i64 a).wf = true
  ev := fun s => suV s
  ed := suD
  R := suR
  zero := Wk.z4
  keyed := Maps.int_keyed Try.underlying3
  ty := Try.underlying63
  key := fun _ h => Maps.keyOf_int_mk Try.underlying3 h
  inv := fun v z h => by
    obtain ⟨x, h1, h2, h3⟩ := Maps.keyOf_int_inv Try.underlying3 h
    exact ⟨x, h1, h2, h3⟩
  inj := fun _ _ h => by injection h
  isKey := fun _ => trivial
  rd := fun _ => rfl
  rinv := fun x z h => by
    obtain ⟨s, rfl, rfl⟩ := suR_inv h
    exact ⟨s, rfl, rfl⟩
  einj := fun _ _ h => suD_inj h
  hz := zero_slot
/-- The developers' worker: its block, its map. -/
structure WpIs (w : World) (q m : Nat) (s : Wk.W) : Prop where
  row : w.heap[q]? = some (.cells #[.map (some m), .int .i64 s.seen] 65 (0, 0))
  map : ∃ n, n ≤ 16 ∧ SM.At w m (Wk.slots s) n
  ok : Wk.Ok s
  clean : Wk.Clean s
section
variable {w w' : World} {q m : Nat} {s : Wk.W}
theorem WpIs.cells (h : WpIs w q m s) : w.cell? ⟨q, 0, none⟩ = some (.map (some m)) ∧ w.cell? ⟨q, 1, none⟩ = some (.int .i64 s.seen) ∧ w.frozen? ⟨q, 1, none⟩ = false ∧ q < w.heap.size :=
  ⟨by rw [cell_of_row w q 0 _ _ _ h.row]; rfl, by rw [cell_of_row w q 1 _ _ _ h.row]; rfl, frozen_of_row _ _ _ _ _ h.row, (Array.getElem?_eq_some_iff.1 h.row).1⟩
theorem WpIs.lt (h : WpIs w q m s) : m < w.heap.size := by
  obtain ⟨n, _, h2⟩ := h.map
  exact MapW.At.lt (M := SM) h2
theorem WpIs.ne (h : WpIs w q m s) : q ≠ m := fun e => by
  obtain ⟨n, _, h2⟩ := h.map
  obtain ⟨es, clock, hb⟩ := MapW.At.block (M := SM) h2
  have := h.row
  rw [e, hb] at this
  injection this with this
  cases this
theorem WpIs.keep (h : WpIs w q m s) (h1 : w'.heap[q]? = w.heap[q]?) (h2 : w'.heap[m]? = w.heap[m]?) : WpIs w' q m s := by
  obtain ⟨n, hn, hm⟩ := h.map
  exact ⟨h1.trans h.row, ⟨n, hn, hm.keep h2⟩, h.ok, h.clean⟩
theorem WpIs.on (h : WpIs w q m s) (hb : Below w.heap.size w w') : WpIs w' q m s := h.keep (hb.block q h.cells.2.2.2) (hb.block m h.lt)
theorem WpIs.look (h : WpIs w q m s) {u : Int} (hu : Nt.i64 u) : (Instr.lookup 63 (.map (some m)) (.int .i64 u) true).run Try.prog w = .ok (.tuple #[suV (Wk.slotOf s u), .bool (decide (Wk.own s u))]) w := by
  obtain ⟨n, hn, hm⟩ := h.map
  have := MapW.At.look_ok hm u (wf_i64 hu)
  rw [Wk.slots_is] at this
  have e : (Wk.slots s u).getD Wk.z4 = Wk.slotOf s u := by
    unfold Wk.slots Wk.slotOf
    by_cases ho : Wk.own s u <;> simp [ho]
  have e2 : SM.ev ((Wk.slots s u).getD SM.zero) = suV (Wk.slotOf s u) := by rw [← e]; rfl
  rw [e2] at this
  exact this
end
/-- The contracts' predicate. -/
def WpL : WkP := fun w X q s => ∃ m, (∀ i, X i ↔ i = q ∨ i = m) ∧ WpIs w q m s
theorem su_retA {U : TypeId} {fn : Func} {p u : Tmp} (hf : fn.results = #[.cell p U, .tmp u]) {fs : Array Field} (hu : Try.prog.underlying U = some (.struct fs)) (hi : (Try.prog.info? U).map (·.size) = some 4) {W w : World} {g : Nat} {r : Su.S} {b : Bool} (h : SuAt U w g r) (hB : Below W.heap.size W w) {a : Act}
    (hp : a.tmps.getD p undef = .pointer (some ⟨g, 0, none⟩)) (hb : a.tmps.getD u undef = .bool b) (hdf : a.defers = []) : bodyPost Try.prog fn (WkAns (.tuple #[suV r, .bool b]) W) .ret a w := by
  refine bodyPost_ret (v := .tuple #[suV r, .bool b]) ?_ hdf ⟨rfl, hB⟩
  rw [results_cell_tmp hf, hp, hb]
  simp [asAddr, run_loadVar_su hu hi h, Result.andThen]
set_option maxHeartbeats 1600000 in
theorem wpslot_any (W : World) (q m : Nat) (s : Wk.W) (u : Int) (h : WpIs W q m s) (hu : Nt.i64 u) : Calls Try.prog 16 #[wkp q, .int .i64 u] W (WkAns (.tuple #[suV (Wk.slotOf s u), .bool (decide (Wk.own s u))]) W) := by
  obtain ⟨W1, hW⟩ : ∃ W1, W1 = W.alloc (.cells #[.int .i64 0, .int .i64 0, .int .i64 0, .int .i64 0] 46) := ⟨_, rfl⟩
  have b1 := (Below.refl W.heap.size W).alloc (Nat.le_refl _) (.cells #[.int .i64 0, .int .i64 0, .int .i64 0, .int .i64 0] 46)
  have r1 := SuAt.new 46 W Su.zero
  unfold suC Su.zero at r1
  simp only at r1
  rw [← hW] at b1 r1
  obtain ⟨g, hg⟩ : ∃ g, g = W.heap.size := ⟨_, rfl⟩
  rw [← hg] at r1
  have HG := Lib.hid hg
  have HW := Lib.hid hW
  have B1 := Lib.hid b1
  have R1 := Lib.hid r1
  have H1 := Lib.hid (h.on b1)
  have HL := H1.out.look hu
  clear h hu hW b1 r1 hg
  generalize decide (Wk.own s u) = bb at *
  generalize Wk.slotOf s u = x at *
  obtain ⟨c0, c1, f1, hq⟩ := H1.out.cells
  unfold suV suC at HL
  go_enter Try.func16, Try.ntmps16
  go_upto_region 1 with fail
  rw [← HW.out, ← HG.out]
  go_upto_region 4 with fail
  have hb := (Below.refl W1.heap.size W1).alloc (Nat.le_refl _) (.cells #[.int .i64 x.st, .int .i64 x.v, .int .i64 x.wa, .int .i64 x.sq] 46)
  have X2 := Lib.hid (SuAt.new 46 W1 x)
  have R2 := Lib.hid (R1.out.on hb)
  have B2 := Lib.hid (B1.out.trans (hb.mono B1.out.size))
  have GL := Lib.hid R1.out.cells.2.2.2.2
  have GB : Hid (W.heap.size ≤ g) := by have := HG.out; show _ ≤ _; omega
  obtain ⟨k, hk⟩ : ∃ k, k = W1.heap.size := ⟨_, rfl⟩
  have GK : Hid (g ≠ k) := by have := GL.out; show _ ≠ _; omega
  rw [← hk] at X2 ⊢
  unfold suC at X2
  clear hb hk c0 c1 f1 hq HL R1 H1 HW B1
  generalize W1.alloc (.cells #[.int .i64 x.st, .int .i64 x.v, .int .i64 x.wa, .int .i64 x.sq] 46) = W2 at *
  obtain ⟨d0, d1, d2, d3, dl⟩ := X2.out.cells
  obtain ⟨f0, f1, f2, f3⟩ := R2.out.fz
  obtain ⟨e0, e1, e2, e3, el⟩ := R2.out.cells
  go_wp2_with fail
  exact su_retA Try.results16 Try.underlying46 (by kernel_rfl) ((((R2.out.set0 x.st).set1 x.v).set2 x.wa).set3 x.sq) ((((B2.out.setCell (p := ⟨g, 0, none⟩) GB.out _).setCell (p := ⟨g, 1, none⟩) GB.out _).setCell (p := ⟨g, 2, none⟩) GB.out _).setCell (p := ⟨g, 3, none⟩) GB.out _) rfl rfl rfl
end Go.Proofs.Ytgljepjflpijiaa
