/-
  Bytes in memory: slices that read as lists of numbers below 256, bytes of a call's own, texts of bytes.
-/
import Derived.Test.YtifokcpkamdkeaaDoorRows
import Derived.Test.YtifokcpkamdkeaaDoorBase
import Derived.Test.YtifokcpkamdkeaaDoorTx
import Derived.Laws.BytesArg
import Derived.Maps.AppendAt
namespace Go.Proofs.YtifokcpkamdkeaaDoor
open Go.RowKit

def vals (l : List Nat) : List Value := l.map fun x => .int .u8 ((x : Nat) : Int)
theorem vals_length (l : List Nat) : (vals l).length = l.length := by simp [vals]
theorem vals_append (a b : List Nat) : vals (a ++ b) = vals a ++ vals b := by simp [vals]
theorem vals_at {l : List Nat} {j : Nat} (h : j < l.length) : (vals l)[j]? = some (.int .u8 ((l.getD j 0 : Nat) : Int)) := by
  rw [getD_at h]; simp [vals, h]
theorem vals_one (l : List Nat) : ∀ u ∈ vals l, u.oneCell' = true := by
  intro u hu
  simp only [vals, List.mem_map] at hu
  obtain ⟨x, _, rfl⟩ := hu
  rfl
theorem Rd.cells {w : World} {B b o : Nat} {l : List Nat} (h : Rd w B (some ⟨b, o, none⟩) l) : ∀ j u, (vals l)[j]? = some u → w.cell? ((⟨b, o, none⟩ : Addr).add j) = some u := by
  intro j u hu
  have hj : j < l.length := by
    rcases Nat.lt_or_ge j l.length with h | h
    · exact h
    · rw [List.getElem?_eq_none (by rw [vals_length]; omega)] at hu; cases hu
  obtain ⟨b', o', e, _, hc⟩ := h.2 (by omega)
  injection e with e
  injection e with e1 e2
  subst e1 e2
  rw [vals_at hj] at hu
  rw [← hu, ← hc j hj]
  congr 1
  unfold Addr.add
  split <;> simp_all
theorem Rd.of_own {w : World} {base n c g : Nat} {e : TypeId} {l : List Nat} (h : w.ownsRow base e 1 (.slice (some ⟨g, 0, none⟩) n c) n (vals l)) (hl : ∀ x ∈ l, x < 256) : Rd w w.heap.size (some ⟨g, 0, none⟩) l := by
  have hn : n = l.length := by have := h.1; rw [vals_length] at this; omega
  refine ⟨hl, fun h0 => ⟨g, 0, rfl, ?_, fun j hj => ?_⟩⟩
  · have hc := h.cellAt 0 (by omega)
    rw [vals_at h0] at hc
    exact block_lt_of_cell hc
  · rw [Nat.zero_add, h.cellAt j (by omega), vals_at hj]
/-- append of bytes that are read, to a row of the call's own. -/
theorem wpList_append_rd {P : Program} {w : World} {ops : Array Oper} {rest : List Oper} {op : Oper} {a : Act} {Q : Exit → Act → World → Prop} (hgd : op.guard = none) (s x : Operand) (t : TypeId)
    (ho : op.op = .call { callee := .builtin .append, args := #[s, x], argTypes := #[t, t] })
    (base : Nat) (e : TypeId) (i : TypeInfo) (z : Value) (ht : P.underlying t = some (.slice e)) (hi : P.info? e = some i) (hz : i.zero = some z)
    (hsize : i.size = 1) (hby : i.bytes = 1) (hzs : z.cells.size = 1)
    (v : Value) (n : Nat) (xs : List Value) (hs : a.eval s = v) (hown : w.ownsRow base e 1 v n xs)
    (B m c : Nat) (A : Option Addr) (l : List Nat) (hx : a.eval x = .slice A m c) (hr : Rd w B A l) (hm : m = l.length) (hA : A = none → c = 0)
    (hnm : n + m ≤ 140737488355328) (hbase : base ≤ w.heap.size)
    (h : ∀ v' w', w'.ownsRow base e 1 v' (n + m) (xs ++ vals l) → w.grownBy w' v.ownBlock → wpList P ops Q rest (a.put op.dst v') w') : wpList P ops Q (op :: rest) a w := by
  rcases A with _ | ad
  · obtain rfl := hA rfl
    have hl : l = [] := by
      rcases l with _ | ⟨x, l⟩
      · rfl
      · obtain ⟨_, _, h0, _⟩ := hr.2 (by simp); cases h0
    subst hl
    subst hm
    refine wpList_append_own_none hgd s x t ho base e i 1 ht hi v n xs hs hown hx ?_
    exact h v w (by simpa [vals] using hown) (World.grownBy.refl w _)
  · have hcells : ∀ j u, (vals l)[j]? = some u → w.cell? (ad.add j) = some u := by
      rcases l with _ | ⟨y, l⟩
      · intro j u hu; simp [vals] at hu
      · obtain ⟨b, o, h0, _⟩ := hr.2 (by simp)
        injection h0 with h0
        subst h0
        exact hr.cells
    exact wpList_append_own w hgd s x t ho base e i z 1 1 ht hi hz hsize hby hzs (by omega) v n xs hs hown ad m c (vals l) hx (by rw [vals_length]; omega) hcells (vals_one l) (by unfold maxLen; omega) (by omega) hbase
      fun v' w' h2 h3 _ => h v' w' h2 h3
theorem byteInfo : (Tryd.prog.info? 5).map (fun i => (i.zero, i.size, i.bytes)) = some (some (.int .u8 0), 1, 1) := by kernel_rfl
/-- A slice value's parts read as the bytes l. -/
structure Sl (w : World) (A : Option Addr) (n c : Nat) (l : List Nat) : Prop where
  rd : Rd w w.heap.size A l
  len : n = l.length
  cap : n ≤ c
  max : c ≤ maxLen
  nil : A = none → c = 0
/-- What the row's step tells of an argument. -/
theorem sl_of {w : World} {a : Option Addr} {len cap : Nat} {zs : List Int}
    (h : (a = none ∧ len = 0 ∧ cap = 0 ∧ zs = []) ∨
      ∃ x, a = some x ∧ len ≤ cap ∧ cap ≤ maxLen ∧ zs.length = cap ∧ (∀ i, i < zs.length → w.cell? (x.add i) = some (.int .u8 (zs.getD i 0))) ∧ ∀ n ∈ zs, (Lit.int .u8 n).wf = true) :
    ∃ l, Sl w a len cap l := by
  rcases h with ⟨rfl, rfl, rfl, rfl⟩ | ⟨x, rfl, hl, hm, hz, hcell, hwz⟩
  · exact ⟨[], Rd.empty _ _ _, rfl, Nat.le_refl _, Nat.zero_le _, fun _ => rfl⟩
  · have hb : ∀ n ∈ zs, 0 ≤ n ∧ n < 256 := by
      intro n hn
      have := hwz n hn
      simp [Lit.wf, IntKind.min, IntKind.max, IntKind.signed, IntKind.bits] at this
      omega
    refine ⟨(zs.take len).map Int.toNat, ⟨?_, ?_⟩, by simp; omega, hl, hm, fun h => by cases h⟩
    · intro y hy
      simp only [List.mem_map] at hy
      obtain ⟨n, hn, rfl⟩ := hy
      have := hb n (List.mem_of_mem_take hn)
      omega
    · intro h0
      simp only [List.length_map, List.length_take] at h0
      obtain ⟨b, off, spot⟩ := x
      have hc := hcell 0 (by omega)
      have hspot : spot = none := by simpa [Addr.add] using World.cell?_spot hc
      subst hspot
      refine ⟨b, off, rfl, ?_, fun j hj => ?_⟩
      · have := block_lt_of_cell hc
        simpa [Addr.add] using this
      · simp only [List.length_map, List.length_take] at hj
        have hcj := hcell j (by omega)
        have hadd : (⟨b, off, none⟩ : Addr).add j = ⟨b, off + j, none⟩ := by unfold Addr.add; split <;> simp_all
        rw [hadd] at hcj
        rw [hcj]
        have hjz : j < zs.length := by omega
        rw [getD_at hjz, getD_at (by simp; omega)]
        have := hb zs[j] (List.getElem_mem hjz)
        congr 2
        simp
        omega
section
variable {w : World} {A : Option Addr} {n c : Nat} {l : List Nat}
theorem Sl.few (h : Sl w A n c l) (k : Nat) : Sl w A (min n k) c (l.take k) :=
  ⟨h.rd.take _, by rw [List.length_take, ← h.len]; omega, by have := h.cap; omega, h.max, h.nil⟩
theorem Sl.on {w' : World} (h : Sl w A n c l) (hb : Below w.heap.size w w') : Sl w' A n c l := ⟨h.rd.on hb, h.len, h.cap, h.max, h.nil⟩
theorem Sl.take (h : Sl w A n c l) {k : Nat} (hk : k ≤ n) : Sl w A k c (l.take k) :=
  ⟨h.rd.take _, by rw [List.length_take, ← h.len]; omega, by have := h.cap; omega, h.max, h.nil⟩
theorem Sl.drop (h : Sl w A n c l) {k : Nat} (hk : k ≤ n) (hc : ¬ c = k) : Sl w (A.map (fun x => x.add k)) (n - k) (c - k) (l.drop k) := by
  refine ⟨?_, by rw [List.length_drop, ← h.len], by have := h.cap; omega, by have := h.max; omega, fun e => ?_⟩
  · have := h.rd.drop (k := k) (c := c) (by rw [← h.len]; exact h.cap) (fun x => x.add k) (fun b o => by unfold Addr.add; split <;> simp_all)
    rwa [if_neg hc] at this
  · rw [Option.map_eq_none_iff] at e; have := h.nil e; omega
theorem Sl.dropAll (h : Sl w A n c l) {k : Nat} (hk : k ≤ n) (hc : c = k) : Sl w A (n - k) (c - k) (l.drop k) := by
  have hcap := h.cap
  refine ⟨?_, by rw [List.length_drop, ← h.len], by omega, by have := h.max; omega, fun e => by have := h.nil e; omega⟩
  rw [List.drop_of_length_le (by rw [← h.len]; omega)]
  exact Rd.empty _ _ _
theorem Sl.none_ (w : World) : Sl w none 0 0 [] := ⟨Rd.empty _ _ _, rfl, Nat.le_refl _, Nat.zero_le _, fun _ => rfl⟩
end
theorem Sl.off {w w' : World} {A : Option Addr} {n c : Nat} {row : Option Nat} {l : List Nat} (h : Sl w A n c l) (hg : w.grownBy w' row) (hr : 0 < l.length → ∀ a, A = some a → row ≠ some a.block) : Sl w' A n c l :=
  ⟨⟨h.rd.1, fun hl => by
    obtain ⟨b, o, e, hb, hc⟩ := h.rd.2 hl
    exact ⟨b, o, e, Nat.lt_of_lt_of_le hb hg.size, fun j hj => hg.cell (hc j hj) (fun e2 => hr hl _ e e2.symm)⟩⟩, h.len, h.cap, h.max, h.nil⟩
theorem Sl.block {w : World} {A : Option Addr} {n c : Nat} {l : List Nat} (h : Sl w A n c l) (hl : 0 < l.length) : ∀ a, A = some a → a.block < w.heap.size := by
  intro a ha
  obtain ⟨b, o, e, hb, _⟩ := h.rd.2 hl
  rw [ha] at e; injection e with e; subst e; exact hb
theorem Sl.aside {w w' : World} {A : Option Addr} {n c : Nat} {row : Option Nat} {l : List Nat} (h : Sl w A n c l) (hg : w.grownBy w' row) (hr : ∀ a, A = some a → some a.block ≠ row) : Sl w' A n c l :=
  ⟨⟨h.rd.1, fun hl => by
    obtain ⟨b, o, e, hb, hc⟩ := h.rd.2 hl
    exact ⟨b, o, e, Nat.lt_of_lt_of_le hb hg.size, fun j hj => hg.cell (hc j hj) (fun e2 => hr _ e e2)⟩⟩, h.len, h.cap, h.max, h.nil⟩
/-- Bytes that lie in another block than r. -/
theorem Sl.apart {w w' : World} {A : Option Addr} {n c r : Nat} {l : List Nat} (h : Sl w A n c l) (hg : w.grownBy w' (some r)) (hr : ∀ a, A = some a → a.block ≠ r) : Sl w' A n c l :=
  ⟨⟨h.rd.1, fun hl => by
    obtain ⟨b, o, e, hb, hc⟩ := h.rd.2 hl
    exact ⟨b, o, e, Nat.lt_of_lt_of_le hb hg.size, fun j hj => hg.cell (hc j hj) (fun e2 => hr _ e (by injection e2))⟩⟩, h.len, h.cap, h.max, h.nil⟩
theorem Rd.made {w : World} {t : TypeId} {cs : Array Value} {fr : Nat × Nat} (l : List Nat) (hcs : cs = (vals l).toArray) (hl : ∀ x ∈ l, x < 256) : Rd (w.alloc (.cells cs t fr)) (w.alloc (.cells cs t fr)).heap.size (some ⟨w.heap.size, 0, none⟩) l := by
  subst hcs
  exact ⟨hl, fun _ => ⟨_, 0, rfl, by simp, fun j hj => by rw [cell_of_row _ _ _ _ t fr (heap_alloc_new w _), Nat.zero_add, List.getElem?_toArray, vals_at hj]⟩⟩
theorem conv_rd {w : World} {B n c : Nat} {A : Option Addr} {l : List Nat} (h : Rd w B A l) (hn : n = l.length) :
    (convert 29 9 (.slice A n c)).run Tryd.prog w = .ok (.string (txt l)) w := by
  by_cases h0 : l = []
  · subst h0
    subst hn
    rcases A with _ | ad
    · rw [run_convert_bytes_nil w 29 5 Tryd.underlying29 Tryd.underlying5 _ _ _ Tryd.underlying9]; rfl
    · rw [run_convert_bytes_string w 29 9 5 _ _ _ Tryd.underlying29 Tryd.underlying5 Tryd.underlying9, run_bytesToString w ad _ c [] (by simp [loadCells, loadCellsFrom])]; rfl
  · obtain ⟨b, o, rfl, _, hc⟩ := h.2 (List.length_pos_iff.2 h0)
    refine run_convert_bytes_arg w 29 5 Tryd.underlying29 Tryd.underlying5 b o n c _ (by simp [hn]) (fun i hi => ?_) _ Tryd.underlying9
    rw [hc i (by omega), getD_at (by omega), getD_at (by simp; omega)]
    simp

/-! Bytes of the call's own. -/
def OwnB (w : World) (B : Nat) (v : Value) (l : List Nat) : Prop := w.ownsRow B 5 1 v l.length (vals l) ∧ ∀ x ∈ l, x < 256
theorem OwnB.sl {w : World} {B : Nat} {v : Value} {l : List Nat} (h : OwnB w B v l) : ∃ A c, v = .slice A l.length c ∧ Sl w A l.length c l := by
  rcases h.1.2 with ⟨rfl, h0⟩ | ⟨g, cap, cur, rfl, _, _, h1, h2, _⟩
  · have hl : l = [] := by simpa using h0
    subst hl
    exact ⟨none, 0, rfl, Sl.none_ w⟩
  · exact ⟨_, cap, rfl, Rd.of_own h.1 h.2, rfl, h1, h2, fun h => by cases h⟩
theorem OwnB.sls {w : World} {B n c : Nat} {A : Option Addr} {l : List Nat} (h : OwnB w B (.slice A n c) l) : Sl w A n c l := by
  obtain ⟨A', c', e, hs⟩ := h.sl
  injection e with e1 e2 e3
  subst e1 e2 e3
  exact hs
theorem OwnB.far {w : World} {B n c : Nat} {A : Option Addr} {v : Value} {l : List Nat} (h : OwnB w B v l) (hv : v = .slice A n c) : ∀ a, A = some a → B ≤ a.block := by
  intro a ha
  subst ha
  subst hv
  rcases h.1.2 with ⟨h0, _⟩ | ⟨g, cap, cur, h0, hb, _⟩
  · cases h0
  · injection h0 with h0; injection h0 with h0; subst h0; exact hb
theorem OwnB.from_ {w : World} {B n c : Nat} {A : Option Addr} {l : List Nat} (h : OwnB w B (.slice A n c) l) : ∀ a, A = some a → B ≤ a.block := by
  intro a ha
  subst ha
  rcases h.1.2 with ⟨h0, _⟩ | ⟨g, cap, cur, h0, hb, _⟩
  · cases h0
  · injection h0 with h0; injection h0 with h0; subst h0; exact hb
theorem OwnB.below {w w' : World} {B : Nat} {v : Value} {l : List Nat} (h : OwnB w B v l) (hb : Below w.heap.size w w') : OwnB w' B v l := ⟨own_below h.1 hb, h.2⟩
theorem OwnB.lower {w : World} {B B' : Nat} {v : Value} {l : List Nat} (h : OwnB w B v l) (hB : B' ≤ B) : OwnB w B' v l := ⟨own_lower h.1 hB, h.2⟩
theorem OwnB.none_ (w : World) (B : Nat) : OwnB w B (.slice none 0 0) [] := ⟨World.ownsRow_nil _ _ _ _, by simp⟩
theorem OwnB.snoc {w : World} {B : Nat} {v : Value} {l : List Nat} {x : Nat} (h : w.ownsRow B 5 1 v (l.length + 1) (vals l ++ [.int .u8 ((x : Nat) : Int)])) (hl : ∀ y ∈ l, y < 256) (hx : x < 256) : OwnB w B v (l ++ [x]) := by
  refine ⟨?_, ?_⟩
  · rw [vals_append, List.length_append]; exact h
  · intro y hy
    rcases List.mem_append.1 hy with hy | hy
    · exact hl y hy
    · simp at hy; omega
/-- append of one byte to bytes of the call's own. -/
theorem wpList_append_byte {w : World} {ops : Array Oper} {rest : List Oper} {op : Oper} {a : Act} {Q : Exit → Act → World → Prop} (hgd : op.guard = none) (s x : Operand)
    (ho : op.op = .call { callee := .builtin .append, args := #[s, x], argTypes := #[29, 29] })
    (base : Nat) (v : Value) (l : List Nat) (hs : a.eval s = v) (hown : OwnB w base v l) (X : Int) (y : Nat) (hX : X = (y : Int)) (hy : y < 256) (hx : a.eval x = .slice (some ⟨w.heap.size, 0, none⟩) 1 1)
    (hl : l.length ≤ 3000000) (hB : base ≤ w.heap.size)
    (h : ∀ v' w', OwnB w' base v' (l ++ [y]) → Below base w w' → wpList Tryd.prog ops Q rest (a.put op.dst v') w') : wpList Tryd.prog ops Q (op :: rest) a (w.alloc (.cells #[.int .u8 X] 5)) := by
  obtain ⟨i0, hi0, hz0, hz1, hz2⟩ := info_parts byteInfo
  subst hX
  refine wpList_append_own _ hgd s x 29 ho base 5 i0 (.int .u8 0) 1 1 Tryd.underlying29 hi0 hz0 hz1 hz2 rfl (by decide) v l.length (vals l) hs (hown.1.alloc _) ⟨w.heap.size, 0, none⟩ 1 1 [.int .u8 (y : Int)] hx rfl ?_ ?_ (by unfold maxLen; omega) (by omega) (by simp; omega) ?_
  · intro j u hu
    rcases j with _ | j
    · simp at hu; subst hu
      have : ((⟨w.heap.size, 0, none⟩ : Addr).add 0) = ⟨w.heap.size, 0, none⟩ := by unfold Addr.add; split <;> simp_all
      rw [this, World.cell?_alloc_at _ _ _ _ rfl]; rfl
    · simp at hu
  · intro u hu; simp at hu; subst hu; rfl
  · intro v' w' h1 h2 _
    exact h v' w' (OwnB.snoc h1 hown.2 hy) (((Below.refl base w).alloc hB _).grown h2 (by simp; omega) (own_base hown.1))
/-- What a call that makes bytes answers. -/
def BPost (l : List Nat) (w : World) (e : Ending) (w' : World) : Prop :=
  ∃ A c, e = .returned (.slice A l.length c) ∧ OwnB w' w.heap.size (.slice A l.length c) l ∧ Below w.heap.size w w'
theorem BPost.mk {l : List Nat} {w w' : World} {v : Value} (h : OwnB w' w.heap.size v l) (hb : Below w.heap.size w w') : BPost l w (.returned v) w' := by
  obtain ⟨A, c, rfl, _⟩ := h.sl
  exact ⟨A, c, rfl, h, hb⟩
/-- append of bytes that are read, to bytes of the call's own. -/
theorem wpList_append_own_rd {w : World} {ops : Array Oper} {rest : List Oper} {op : Oper} {a : Act} {Q : Exit → Act → World → Prop} (hgd : op.guard = none) (s x : Operand)
    (ho : op.op = .call { callee := .builtin .append, args := #[s, x], argTypes := #[29, 29] })
    (base : Nat) (v : Value) (l1 : List Nat) (hs : a.eval s = v) (hown : OwnB w base v l1) (m c : Nat) (A : Option Addr) (l : List Nat) (hx : a.eval x = .slice A m c) (hr : Sl w A m c l)
    (hlen : l1.length + l.length ≤ 140737488355328) (hbase : base ≤ w.heap.size)
    (h : ∀ v' w', OwnB w' base v' (l1 ++ l) → Below base w w' → wpList Tryd.prog ops Q rest (a.put op.dst v') w') : wpList Tryd.prog ops Q (op :: rest) a w := by
  obtain ⟨i0, hi0, hz0, hz1, hz2⟩ := info_parts byteInfo
  refine wpList_append_rd hgd s x 29 ho base 5 i0 _ Tryd.underlying29 hi0 hz0 hz1 hz2 rfl v l1.length (vals l1) hs hown.1 w.heap.size m c A l hx hr.rd hr.len hr.nil (by rw [hr.len]; exact hlen) hbase ?_
  intro v' w' h1 h2
  refine h v' w' ⟨?_, ?_⟩ ((Below.refl base w).grown h2 hbase (own_base hown.1))
  · rw [vals_append, List.length_append, ← hr.len]; exact h1
  · intro y hy
    rcases List.mem_append.1 hy with hy | hy
    · exact hown.2 y hy
    · exact hr.rd.1 y hy
theorem vals_set (S : List Nat) (j y : Nat) : (vals S).set j (.int .u8 ((y : Nat) : Int)) = vals (S.set j y) := by
  unfold vals; rw [List.map_set]
/-- A byte stored into bytes of the call's own. -/
theorem OwnB.put {w : World} {B n c g : Nat} {S : List Nat} (h : OwnB w B (.slice (some ⟨g, 0, none⟩) n c) S) (j y : Nat) (hy : y < 256) : OwnB (w.setCell ⟨g, j, none⟩ (.int .u8 ((y : Nat) : Int))) B (.slice (some ⟨g, 0, none⟩) n c) (S.set j y) := by
  have hn := h.sls.len
  subst hn
  refine ⟨?_, fun x hx => ?_⟩
  · have := (h.1.stored j (.int .u8 ((y : Nat) : Int))).1
    rw [vals_set] at this
    rw [List.length_set]
    exact this
  · rcases List.mem_or_eq_of_mem_set hx with hx | rfl
    · exact h.2 x hx
    · exact hy
theorem sl_one (w : World) (x : Nat) (hx : x < 256) (X : Int) (e1 : X = (x : Int)) : Sl (w.alloc (.cells #[.int .u8 X] 5)) (some ⟨w.heap.size, 0, none⟩) 1 1 [x] := by
  subst e1
  exact ⟨Rd.made [x] rfl (by intro z hz; simp at hz; omega), rfl, Nat.le_refl _, by unfold maxLen; omega, fun h => by cases h⟩
theorem sl_two (w : World) (x y : Nat) (hx : x < 256) (hy : y < 256) (X Y : Int) (e1 : X = (x : Int)) (e2 : Y = (y : Int)) : Sl (w.alloc (.cells #[.int .u8 X, .int .u8 Y] 5)) (some ⟨w.heap.size, 0, none⟩) 2 2 [x, y] := by
  subst e1 e2
  exact ⟨Rd.made [x, y] rfl (by intro z hz; simp at hz; omega), rfl, Nat.le_refl _, by unfold maxLen; omega, fun h => by cases h⟩
end Go.Proofs.YtifokcpkamdkeaaDoor
