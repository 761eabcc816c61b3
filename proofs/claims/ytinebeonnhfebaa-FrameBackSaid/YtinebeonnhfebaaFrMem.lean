/-
  Bytes of the call's own, slices of slices of bytes; bytes.Clone, slices.Grow and slices.Concat at bytes: what they answer, from any world.
-/
import Derived.Test.YtinebeonnhfebaaFrMath
import Derived.Test.YtinebeonnhfebaaCrcRef2
import Derived.Maps.AppendAt
import Derived.Lib.AppendZerosOnto
import Derived.Lib.SliceRun
import Derived.WalkSpells
import Derived.WalkLawsBesides
import Derived.Lib.MinMax
import Derived.Lib.SlBytesConst
import Derived.Deep.Matrix
namespace Go.Proofs.Ytinebeonnhfebaa
open Go.RowKit

theorem ret_bool {a b : Bool} (h : a = b) : Ending.returned (.bool a) = .returned (.bool b) := by rw [h]
theorem own_base {w : World} {B n size : Nat} {e : TypeId} {v : Value} {xs : List Value} (h : w.ownsRow B e size v n xs) : ∀ k, v.ownBlock = some k → B ≤ k := fun k hk => (h.lt k hk).1
theorem grown_below {w a : World} (row : Option Nat) (h : Below w.heap.size w a) : w.grownBy a row := ⟨h.os, h.tape, h.output, h.size, fun i hi _ => h.block i hi⟩

/-! Bytes of the call's own. -/
def OwnB (w : World) (B : Nat) (v : Value) (l : List Nat) : Prop := w.ownsRow B 5 1 v l.length (vals l) ∧ ∀ x ∈ l, x < 256
theorem OwnB.sl {w : World} {B : Nat} {v : Value} {l : List Nat} (h : OwnB w B v l) : ∃ A c, v = .slice A l.length c ∧ Sl w A l.length c l := by
  rcases h.1.2 with ⟨rfl, h0⟩ | ⟨g, cap, cur, rfl, _, _, h1, h2, _⟩
  · have hl : l = [] := by simpa using h0
    subst hl
    exact ⟨none, 0, rfl, Sl.none_ w⟩
  · exact ⟨_, cap, rfl, Rd.of_own h.1 h.2, rfl, h1, h2, fun h => by cases h⟩
theorem OwnB.sls {w : World} {B n c : Nat} {A : Option Addr} {l : List Nat} (h : OwnB w B (.slice A n c) l) : Sl w A n c l := by
  obtain ⟨A', c', e, hs⟩ := h.sl
  injection e with e1 e2 e3
  subst e1 e2 e3
  exact hs
theorem OwnB.far {w : World} {B n c : Nat} {A : Option Addr} {l : List Nat} (h : OwnB w B (.slice A n c) l) : ∀ a, A = some a → B ≤ a.block := by
  intro a ha
  subst ha
  rcases h.1.2 with ⟨h0, _⟩ | ⟨g, cap, cur, h0, hb, _⟩
  · cases h0
  · injection h0 with h0; injection h0 with h0; subst h0; exact hb
theorem OwnB.below {w w' : World} {B : Nat} {v : Value} {l : List Nat} (h : OwnB w B v l) (hb : Below w.heap.size w w') : OwnB w' B v l := ⟨own_below h.1 hb, h.2⟩
theorem own_lower {w : World} {B B' n size : Nat} {e : TypeId} {v : Value} {xs : List Value} (h : w.ownsRow B e size v n xs) (hB : B' ≤ B) : w.ownsRow B' e size v n xs := by
  refine ⟨h.1, ?_⟩
  rcases h.2 with h2 | ⟨g, cap, cur, hv, hg, r⟩
  · exact .inl h2
  · exact .inr ⟨g, cap, cur, hv, Nat.le_trans hB hg, r⟩
theorem OwnB.lower {w : World} {B B' : Nat} {v : Value} {l : List Nat} (h : OwnB w B v l) (hB : B' ≤ B) : OwnB w B' v l := ⟨own_lower h.1 hB, h.2⟩
theorem OwnB.none_ (w : World) (B : Nat) : OwnB w B (.slice none 0 0) [] := ⟨World.ownsRow_nil _ _ _ _, by simp⟩
/-- What a call that makes bytes answers. -/
def BPost (l : List Nat) (w : World) (e : Ending) (w' : World) : Prop :=
  ∃ A c, e = .returned (.slice A l.length c) ∧ OwnB w' w.heap.size (.slice A l.length c) l ∧ Below w.heap.size w w'
theorem BPost.mk {l : List Nat} {w w' : World} {v : Value} (h : OwnB w' w.heap.size v l) (hb : Below w.heap.size w w') : BPost l w (.returned v) w' := by
  obtain ⟨A, c, rfl, _⟩ := h.sl
  exact ⟨A, c, rfl, h, hb⟩

/-- append of bytes that are read, to bytes of the call's own. -/
theorem wpList_append_own_rd {w : World} {ops : Array Oper} {rest : List Oper} {op : Oper} {a : Act} {Q : Exit → Act → World → Prop} (hgd : op.guard = none) (s x : Operand)
    (ho : op.op = .call { callee := .builtin .append, args := #[s, x], argTypes := #[22, 22] })
    (base : Nat) (v : Value) (l1 : List Nat) (hs : a.eval s = v) (hown : OwnB w base v l1) (m c : Nat) (A : Option Addr) (l : List Nat) (hx : a.eval x = .slice A m c) (hr : Sl w A m c l)
    (hlen : l1.length + l.length ≤ 140737488355328) (hbase : base ≤ w.heap.size)
    (h : ∀ v' w', OwnB w' base v' (l1 ++ l) → Below base w w' → wpList Try.prog ops Q rest (a.put op.dst v') w') : wpList Try.prog ops Q (op :: rest) a w := by
  obtain ⟨i0, hi0, hz0, hz1, hz2⟩ := info_parts byteInfo
  refine wpList_append_rd hgd s x 22 ho base 5 i0 _ Try.underlying22 hi0 hz0 hz1 hz2 rfl v l1.length (vals l1) hs hown.1 w.heap.size m c A l hx hr.rd hr.len hr.nil (by rw [hr.len]; exact hlen) hbase ?_
  intro v' w' h1 h2
  refine h v' w' ⟨?_, ?_⟩ ((Below.refl base w).grown h2 hbase (own_base hown.1))
  · rw [vals_append, List.length_append, ← hr.len]; exact h1
  · intro y hy
    rcases List.mem_append.1 hy with hy | hy
    · exact hown.2 y hy
    · exact hr.rd.1 y hy

/-! Slices of slices of bytes. -/
theorem rowInfo : (Try.prog.info? 22).map (fun i => (i.zero, i.size, i.bytes)) = some (some (.slice none 0 0), 1, 24) := by kernel_rfl
/-- A slice value's parts read as the rows of bytes ls. -/
structure SlS (w : World) (A : Option Addr) (n c : Nat) (ls : List (List Nat)) : Prop where
  rd : 0 < ls.length → ∃ b o, A = some ⟨b, o, none⟩ ∧ b < w.heap.size ∧ ∀ j, j < ls.length → ∃ A' n' c', w.cell? ⟨b, o + j, none⟩ = some (.slice A' n' c') ∧ Sl w A' n' c' (ls.getD j [])
  len : n = ls.length
  cap : n ≤ c
  max : c ≤ maxLen
  nil : A = none → c = 0
theorem SlS.on {w w' : World} {A : Option Addr} {n c : Nat} {ls : List (List Nat)} (h : SlS w A n c ls) (hb : Below w.heap.size w w') : SlS w' A n c ls :=
  ⟨fun hl => by
    obtain ⟨b, o, e, h1, h2⟩ := h.rd hl
    refine ⟨b, o, e, Nat.lt_of_lt_of_le h1 hb.size, fun j hj => ?_⟩
    obtain ⟨A', n', c', h3, h4⟩ := h2 j hj
    exact ⟨A', n', c', (hb.cell (p := ⟨b, o + j, none⟩) h1).trans h3, h4.on hb⟩, h.len, h.cap, h.max, h.nil⟩
theorem SlS.none_ (w : World) : SlS w none 0 0 [] := ⟨by simp, rfl, Nat.le_refl _, Nat.zero_le _, fun _ => rfl⟩
theorem SlS.take {w : World} {A : Option Addr} {n c : Nat} {ls : List (List Nat)} (h : SlS w A n c ls) {k : Nat} (hk : k ≤ n) : SlS w A k c (ls.take k) :=
  ⟨fun hl => by
    rw [List.length_take] at hl
    obtain ⟨b, o, e, h1, h2⟩ := h.rd (by omega)
    refine ⟨b, o, e, h1, fun j hj => ?_⟩
    rw [List.length_take] at hj
    obtain ⟨A', n', c', h3, h4⟩ := h2 j (by omega)
    refine ⟨A', n', c', h3, ?_⟩
    rw [getD_at (by rw [List.length_take]; omega), List.getElem_take, ← getD_at (d := [])]
    exact h4, by rw [List.length_take, ← h.len]; omega, by have := h.cap; omega, h.max, h.nil⟩
/-- What the row's step tells of an argument of rows of bytes. -/
theorem rows_of {w : World} {a : Addr} {base len cap : Nat} {A : Nat → Option Addr} {L C : Nat → Nat} {Z : Nat → List Int} (hl : len ≤ cap) (hm : cap ≤ maxLen)
    (h : ∀ r, r < cap → w.cell? (a.add r) = some (.slice (A r) (L r) (C r)) ∧ L r ≤ C r ∧ C r ≤ maxLen ∧ (Z r).length = C r ∧ (∀ n ∈ Z r, (Lit.int .u8 n).wf = true) ∧ (A r = none → C r = 0) ∧
      ∀ a', A r = some a' → base ≤ a'.block ∧ ∀ c, c < C r → w.cell? (a'.add c) = some (.int .u8 ((Z r).getD c 0))) : ∃ ls, SlS w (some a) len cap ls := by
  have each : ∀ r, ∃ l, r < cap → Sl w (A r) (L r) (C r) l := by
    intro r
    by_cases hr : r < cap
    · obtain ⟨_, h1, h2, h3, h4, h5, h6⟩ := h r hr
      rcases hA : A r with _ | a'
      · have hc := h5 hA
        have hL : L r = 0 := by omega
        exact ⟨[], fun _ => by rw [hc, hL]; exact Sl.none_ w⟩
      · obtain ⟨_, h7⟩ := h6 a' hA
        obtain ⟨l, hs⟩ := sl_of (w := w) (a := some a') (len := L r) (cap := C r) (zs := Z r) (.inr ⟨a', rfl, h1, h2, h3, fun i hi => h7 i (by omega), h4⟩)
        exact ⟨l, fun _ => hs⟩
    · exact ⟨[], fun hr' => absurd hr' hr⟩
  obtain ⟨f, hf⟩ := Classical.axiomOfChoice each
  refine ⟨(List.range len).map f, fun h0 => ?_, by simp, hl, hm, fun h => by cases h⟩
  simp only [List.length_map, List.length_range] at h0
  obtain ⟨b, o, spot⟩ := a
  have hc0 := (h 0 (by omega)).1
  have hspot : spot = none := by simpa [Addr.add] using World.cell?_spot hc0
  subst hspot
  refine ⟨b, o, rfl, ?_, fun j hj => ?_⟩
  · have := World.block_lt_of_cell? w _ hc0
    simpa [Addr.add] using this
  · simp only [List.length_map, List.length_range] at hj
    have hadd : (⟨b, o, none⟩ : Addr).add j = ⟨b, o + j, none⟩ := by unfold Addr.add; split <;> simp_all
    have hcj := (h j (by omega)).1
    rw [hadd] at hcj
    refine ⟨A j, L j, C j, hcj, ?_⟩
    rw [getD_at (by simp; exact hj), List.getElem_map, List.getElem_range]
    exact hf j (by omega)
/-- One cell of a row of the call's own reads as l, in another block than the row's. -/
def Fits (w : World) (v x : Value) (l : List Nat) : Prop := ∃ A n c, x = .slice A n c ∧ Sl w A n c l ∧ (0 < l.length → ∀ a, A = some a → v.ownBlock ≠ some a.block)
/-- Rows of bytes, in a row of the call's own. -/
def OwnS (w : World) (B : Nat) (v : Value) (ls : List (List Nat)) : Prop :=
  ∃ xs, w.ownsRow B 22 1 v ls.length xs ∧ ∀ j, j < ls.length → ∃ x, xs[j]? = some x ∧ Fits w v x (ls.getD j [])
theorem OwnS.none_ (w : World) (B : Nat) : OwnS w B (.slice none 0 0) [] := ⟨[], World.ownsRow_nil _ _ _ _, fun j hj => by simp at hj⟩
theorem OwnS.base {w : World} {B : Nat} {v : Value} {ls : List (List Nat)} (h : OwnS w B v ls) : ∀ k, v.ownBlock = some k → B ≤ k ∧ k < w.heap.size := by
  obtain ⟨xs, h1, _⟩ := h
  exact h1.lt
theorem OwnS.sls {w : World} {B : Nat} {v : Value} {ls : List (List Nat)} (h : OwnS w B v ls) : ∃ A c, v = .slice A ls.length c ∧ SlS w A ls.length c ls := by
  obtain ⟨xs, ho, hf⟩ := h
  rcases ho.2 with ⟨rfl, h0⟩ | ⟨g, cap, cur, rfl, _, hg, h1, h2, _⟩
  · have hl : ls = [] := by simpa using h0
    subst hl
    exact ⟨none, 0, rfl, SlS.none_ w⟩
  · refine ⟨_, cap, rfl, fun _ => ⟨g, 0, rfl, (Array.getElem?_eq_some_iff.1 hg).1, fun j hj => ?_⟩, rfl, h1, h2, fun h => by cases h⟩
    obtain ⟨x, hx, A', n', c', rfl, hs, _⟩ := hf j hj
    exact ⟨A', n', c', by rw [Nat.zero_add, ho.cellAt j (by omega), hx], hs⟩
theorem OwnS.below {w w' : World} {B : Nat} {v : Value} {ls : List (List Nat)} (h : OwnS w B v ls) (hb : Below w.heap.size w w') : OwnS w' B v ls := by
  obtain ⟨xs, ho, hf⟩ := h
  refine ⟨xs, own_below ho hb, fun j hj => ?_⟩
  obtain ⟨x, hx, A', n', c', e, hs, hfar⟩ := hf j hj
  exact ⟨x, hx, A', n', c', e, hs.on hb, hfar⟩
theorem Sl.aside {w w' : World} {A : Option Addr} {n c : Nat} {row : Option Nat} {l : List Nat} (h : Sl w A n c l) (hg : w.grownBy w' row) (hr : 0 < l.length → ∀ a, A = some a → row ≠ some a.block) : Sl w' A n c l :=
  ⟨⟨h.rd.1, fun hl => by
    obtain ⟨b, o, e, hb, hc⟩ := h.rd.2 hl
    exact ⟨b, o, e, Nat.lt_of_lt_of_le hb hg.size, fun j hj => hg.cell (hc j hj) (fun e2 => hr hl _ e e2.symm)⟩⟩, h.len, h.cap, h.max, h.nil⟩
theorem Sl.block {w : World} {A : Option Addr} {n c : Nat} {l : List Nat} (h : Sl w A n c l) (hl : 0 < l.length) : ∀ a, A = some a → a.block < w.heap.size := by
  intro a ha
  obtain ⟨b, o, e, hb, _⟩ := h.rd.2 hl
  rw [ha] at e; injection e with e; subst e; exact hb
/-- A cell fits still, behind a write to the row. -/
theorem Fits.grown {w w' : World} {v v' x : Value} {l : List Nat} (h : Fits w v x l) (hg : w.grownBy w' v.ownBlock) (hv : v'.ownBlock = v.ownBlock ∨ v'.ownBlock = some w.heap.size) : Fits w' v' x l := by
  obtain ⟨A, n, c, e, hs, hf⟩ := h
  refine ⟨A, n, c, e, hs.aside hg hf, fun hl a ha => ?_⟩
  rcases hv with hv | hv
  · rw [hv]; exact hf hl a ha
  · rw [hv]
    have := hs.block hl a ha
    intro e2; injection e2; omega
theorem getD_append_l {T : Type} (a b : List T) (j : Nat) (d : T) (h : j < a.length) : (a ++ b).getD j d = a.getD j d := by
  rw [getD_at h, getD_at (by simp; omega), List.getElem_append_left h]
theorem getD_append_r {T : Type} (a b : List T) (j : Nat) (d : T) (h : a.length ≤ j) (h2 : j < a.length + b.length) : (a ++ b).getD j d = b.getD (j - a.length) d := by
  rw [getD_at (by simp; omega), getD_at (by omega), List.getElem_append_right h]

/-- append of rows to rows of the call's own. -/
theorem wpList_append_rows {w : World} {ops : Array Oper} {rest : List Oper} {op : Oper} {a : Act} {Q : Exit → Act → World → Prop} (hgd : op.guard = none) (s x : Operand)
    (ho : op.op = .call { callee := .builtin .append, args := #[s, x], argTypes := #[32, 32] })
    (base : Nat) (v : Value) (ls : List (List Nat)) (hs : a.eval s = v) (hown : OwnS w base v ls) (m c : Nat) (A : Option Addr) (ms : List (List Nat)) (hx : a.eval x = .slice A m c) (hr : SlS w A m c ms)
    (hfar : ∀ j b o, j < ms.length → A = some ⟨b, o, none⟩ → ∀ A' n' c', w.cell? ⟨b, o + j, none⟩ = some (.slice A' n' c') → 0 < (ms.getD j []).length → ∀ a, A' = some a → v.ownBlock ≠ some a.block)
    (hlen : ls.length + ms.length ≤ 4000000000) (hbase : base ≤ w.heap.size)
    (h : ∀ v' w', OwnS w' base v' (ls ++ ms) → Below base w w' → wpList Try.prog ops Q rest (a.put op.dst v') w') : wpList Try.prog ops Q (op :: rest) a w := by
  obtain ⟨i0, hi0, hz0, hz1, hz2⟩ := info_parts rowInfo
  obtain ⟨xs, ho1, hf⟩ := hown
  have hxl := ho1.1
  rw [Nat.mul_one] at hxl
  rcases A with _ | ad
  · obtain rfl := hr.nil rfl
    have hm : ms = [] := by
      rcases ms with _ | ⟨y, l⟩
      · rfl
      · obtain ⟨_, _, h0, _⟩ := hr.rd (by simp); cases h0
    subst hm
    obtain rfl := hr.len
    refine wpList_append_own_none hgd s x 32 ho base 22 i0 1 Try.underlying32 hi0 v ls.length xs hs ho1 hx ?_
    exact h v w (by rw [List.append_nil]; exact ⟨xs, ho1, hf⟩) (Below.refl _ _)
  · obtain ⟨news, hnl, hnw⟩ : ∃ news : List Value, news.length = ms.length ∧ ∀ j, j < ms.length → ∃ u, news[j]? = some u ∧ w.cell? (ad.add j) = some u ∧ Fits w v u (ms.getD j []) := by
      rcases Nat.eq_zero_or_pos ms.length with h0 | h0
      · exact ⟨[], by rw [h0]; rfl, fun j hj => by omega⟩
      · obtain ⟨b, o, e, _, hc⟩ := hr.rd h0
        injection e with e
        subst e
        refine ⟨(List.range ms.length).map fun j => (w.cell? ⟨b, o + j, none⟩).getD default, by simp, fun j hj => ?_⟩
        obtain ⟨A', n', c', h1, h2⟩ := hc j hj
        refine ⟨.slice A' n' c', ?_, ?_, A', n', c', rfl, h2, fun hl => hfar j b o hj rfl A' n' c' h1 hl⟩
        · rw [List.getElem?_map, List.getElem?_range hj, Option.map_some, h1, Option.getD_some]
        · have : (⟨b, o, none⟩ : Addr).add j = ⟨b, o + j, none⟩ := by unfold Addr.add; split <;> simp_all
          rw [this, h1]
    refine wpList_append_own_at w hgd s x 32 ho base 22 i0 _ 1 24 Try.underlying32 hi0 hz0 hz1 hz2 rfl (by omega) v ls.length xs hs ho1 ad m c news hx (by rw [hnl, hr.len, Nat.mul_one]) ?_ ?_ (by unfold maxLen; rw [hr.len]; omega) (by rw [hr.len]; omega) hbase ?_
    · intro j u hu
      have hj : j < ms.length := by
        rcases Nat.lt_or_ge j ms.length with h | h
        · exact h
        · rw [List.getElem?_eq_none (by omega)] at hu; cases hu
      obtain ⟨u', e1, e2, _⟩ := hnw j hj
      rw [hu] at e1; injection e1 with e1; subst e1; exact e2
    · intro u hu
      obtain ⟨j, hj, rfl⟩ := List.mem_iff_getElem.1 hu
      obtain ⟨u', e1, _, A', n', c', rfl, _⟩ := hnw j (by omega)
      rw [List.getElem?_eq_getElem hj] at e1
      injection e1 with e1
      rw [e1]; rfl
    · intro v' w' h1 h2 _ h4
      refine h v' w' ⟨xs ++ news, ?_, fun j hj => ?_⟩ ((Below.refl base w).grown h2 hbase (own_base ho1))
      · rw [List.length_append, ← hr.len]; exact h1
      · rw [List.length_append] at hj
        by_cases hjl : j < ls.length
        · obtain ⟨y, hy, hfy⟩ := hf j hjl
          refine ⟨y, ?_, ?_⟩
          · rw [List.getElem?_append_left (by omega)]; exact hy
          · rw [getD_append_l _ _ _ _ hjl]; exact hfy.grown h2 h4
        · obtain ⟨u, e1, _, hfu⟩ := hnw (j - ls.length) (by omega)
          refine ⟨u, ?_, ?_⟩
          · rw [List.getElem?_append_right (by omega), hxl]; exact e1
          · rw [getD_append_r _ _ _ _ (by omega) hj]; exact hfu.grown h2 h4
/-- One row in a cell of its own. -/
theorem SlS.one {w : World} {A : Option Addr} {n c : Nat} {l : List Nat} (h : Sl w A n c l) : SlS (w.alloc (.cells #[.slice A n c] 22)) (some ⟨w.heap.size, 0, none⟩) 1 1 [l] :=
  ⟨fun _ => ⟨_, 0, rfl, by simp, fun j hj => by
    obtain rfl : j = 0 := by simpa using hj
    exact ⟨A, n, c, by rw [World.cell?_alloc_at _ _ _ _ rfl]; rfl, h.on ((Below.refl _ _).alloc (Nat.le_refl _) _)⟩⟩, rfl, Nat.le_refl _, by unfold maxLen; omega, fun h => by cases h⟩
/-- append of one row to rows of the call's own. -/
theorem wpList_append_row {w : World} {ops : Array Oper} {rest : List Oper} {op : Oper} {a : Act} {Q : Exit → Act → World → Prop} (hgd : op.guard = none) (s x : Operand)
    (ho : op.op = .call { callee := .builtin .append, args := #[s, x], argTypes := #[32, 32] })
    (base : Nat) (v : Value) (ls : List (List Nat)) (hs : a.eval s = v) (hown : OwnS w base v ls) (A : Option Addr) (n c : Nat) (l : List Nat) (hl : Sl w A n c l) (hx : a.eval x = .slice (some ⟨w.heap.size, 0, none⟩) 1 1)
    (hfar : 0 < l.length → ∀ a, A = some a → v.ownBlock ≠ some a.block)
    (hlen : ls.length ≤ 3000000000) (hbase : base ≤ w.heap.size)
    (h : ∀ v' w', OwnS w' base v' (ls ++ [l]) → Below base w w' → wpList Try.prog ops Q rest (a.put op.dst v') w') : wpList Try.prog ops Q (op :: rest) a (w.alloc (.cells #[.slice A n c] 22)) := by
  have hb := (Below.refl w.heap.size w).alloc (Nat.le_refl _) (.cells #[.slice A n c] 22)
  refine wpList_append_rows hgd s x ho base v ls hs (hown.below hb) 1 1 _ [l] hx (SlS.one hl) ?_ (by simp; omega) (by simp; omega) (fun v' w' h1 h2 => h v' w' h1 ((hb.mono hbase).trans h2))
  intro j b o hj e A' n' c' hc hlj
  obtain rfl : j = 0 := by simpa using hj
  injection e with e
  injection e with e1 e2
  subst e1 e2
  rw [World.cell?_alloc_at _ _ _ _ rfl] at hc
  simp only [Option.some.injEq, Nat.zero_add, List.getElem?_toArray, List.getElem?_cons_zero, Value.slice.injEq] at hc
  obtain ⟨rfl, rfl, rfl⟩ := hc
  exact hfar hlj

/-! bytes.Clone, slices.Grow, slices.Concat. -/
set_option maxHeartbeats 400000 in
theorem clone_any (n c : Nat) (A : Option Addr) (l : List Nat) (w : World) (h : Sl w A n c l) (hl : n ≤ 1000000000) :
    Calls Try.prog 22 #[.slice A n c] w (BPost l w) := by
  have H := Lib.hid h
  have hnil := fun (w : World) (a : Option Addr) (n c : Nat) => Lib.run_eql_slice_nil (P := Try.prog) w 22 5 a n c 0 0 Try.underlying22
  rcases A with _ | ad
  · obtain rfl := h.nil rfl
    have hn : n = 0 := by have := h.cap; omega
    subst hn
    have hl0 : l = [] := by have := h.len; exact List.eq_nil_of_length_eq_zero this.symm
    subst hl0
    clear h
    go_enter Try.func22, Try.ntmps22
    go_wp2_with fail
    go_ret
    exact BPost.mk (OwnB.none_ _ _) (Below.refl _ _)
  · have O1 : Hid (OwnB (w.alloc (.cells #[] 5)) w.heap.size (.slice (some ⟨w.heap.size, 0, none⟩) 0 0) []) := ⟨World.ownsRow_made w #[] 0 (Nat.le_refl _) (Nat.zero_le _) rfl, by simp⟩
    have HB := Lib.hid ((Below.refl w.heap.size w).alloc (Nat.le_refl _) (.cells #[] 5))
    have HL : Hid (([] : List Nat).length + l.length ≤ 140737488355328) := by show _ ≤ _; rw [← h.len]; simp; omega
    have hs0 : (w.alloc (.cells #[] 5)).heap.size = w.heap.size + 1 := by simp
    have HS := Lib.hid hs0
    clear h hs0 hl
    go_enter Try.func22, Try.ntmps22
    go_wp2_with (at_builtin; refine wpList_append_own_rd rfl (.tmp 5) (.tmp 6) rfl w.heap.size _ [] rfl O1.out n c _ l rfl (H.out.on HB.out) HL.out (by rw [HS.out]; omega) ?_; intro v2 w2 hown2 hb2; have O2 := Lib.hid hown2; have B2 := Lib.hid hb2; clear hown2 hb2)
    go_ret
    exact BPost.mk O2.out (HB.out.trans B2.out)

/-- What Grow answers of nil. -/
def GrowPost (w : World) (e : Ending) (w' : World) : Prop := ∃ v, e = .returned v ∧ OwnB w' w.heap.size v [] ∧ Below w.heap.size w w'
set_option maxHeartbeats 400000 in
theorem grow_any (n : Nat) (w : World) (hn : n ≤ 1000000000) :
    Calls Try.prog 28 #[.slice none 0 0, .int .i64 n] w (GrowPost w) := by
  obtain ⟨i0, hi0, hz0, hz1, hz2⟩ := info_parts byteInfo
  by_cases h0 : n = 0
  · subst h0
    go_enter Try.func28, Try.ntmps28
    go_wp2_with fail
    go_ret
    exact ⟨_, rfl, OwnB.none_ _ _, Below.refl _ _⟩
  · have hold : (Builtin.firstCells i0.size 0 (.slice none 0 0)).run Try.prog w.drew = .ok #[] w.drew := run_firstCells_none w.drew i0.size 0 0 0
    have hrz : ∀ ty, (Builtin.append_ #[22, 3] ty #[.slice none 0 0, .int .i64 (n : Int)]).run Try.prog w =
        .ok (.slice (some ⟨w.heap.size, 0, none⟩) (0 + n) (grownCap w (0 + n) 0 5)) (w.drew.alloc (.cells (#[] ++ Builtin.zeroCells (Value.int .u8 0).cells n ++ Builtin.zeroCells (Value.int .u8 0).cells (grownCap w (0 + n) 0 5 - (0 + n))) 5)) := fun ty =>
      Lib.run_append_grow_zeros w 22 3 ty 5 i0 (.int .u8 0) .i64 .i64 Try.underlying22 Try.underlying3 hi0 hz0 none 0 0 [] hold n (by omega) (by omega) (by omega) (by omega) (by rw [hz2]; omega)
        (growslice_fits (by omega) (by rw [hz2]; omega))
    have hge : 0 + n ≤ grownCap w (0 + n) 0 5 := grownCap_ge w _ _ _
    have hm : grownCap w (0 + n) 0 5 ≤ maxLen := grownCap_le_maxLen w _ _ _ (by unfold maxLen; omega)
    generalize grownCap w (0 + n) 0 5 = G at *
    have hsz : (#[] ++ Builtin.zeroCells (Value.int .u8 0).cells n ++ Builtin.zeroCells (Value.int .u8 0).cells (G - (0 + n))).size = G := by
      rw [Array.size_append, Array.size_append, size_zeroCells, size_zeroCells]
      simp [Value.cells]
      omega
    generalize (#[] ++ Builtin.zeroCells (Value.int .u8 0).cells n ++ Builtin.zeroCells (Value.int .u8 0).cells (G - (0 + n))) = cs at *
    have O : Hid (OwnB (w.alloc (.cells cs 5)).drew w.heap.size (.slice (some ⟨w.heap.size, 0, none⟩) 0 G) []) :=
      ⟨World.ownsRow_made w cs G (Nat.le_refl _) hm (by rw [hsz, Nat.mul_one]), by simp⟩
    have HZ := Lib.hid hrz
    clear hrz hold hi0 hz0 hz1 hz2 hsz
    unfold maxLen at hm
    go_enter Try.func28, Try.ntmps28
    go_wp2_with (at_builtin; refine Lib.wpList_append_run _ rfl _ _ _ _ rfl _ _ rfl rfl _ _ (HZ.out _) ?_)
    go_ret
    exact ⟨_, rfl, O.out, ((Below.refl w.heap.size w).alloc (Nat.le_refl _) _).drew⟩

theorem flat_snoc (ls : List (List Nat)) (k : Nat) (h : k < ls.length) : (ls.take (k + 1)).flatten = (ls.take k).flatten ++ ls.getD k [] := by
  rw [List.take_succ_eq_append_getElem h, List.flatten_append, getD_at h]; simp
theorem flat_le (ls : List (List Nat)) (k : Nat) : (ls.take k).flatten.length ≤ ls.flatten.length := by
  have h : ls.flatten = (ls.take k).flatten ++ (ls.drop k).flatten := by rw [← List.flatten_append, List.take_append_drop]
  rw [h, List.length_append]; omega
/-- How many bytes the first k rows have. -/
def fln (ls : List (List Nat)) (k : Nat) : Nat := (ls.take k).flatten.length
theorem fln_zero (ls : List (List Nat)) : fln ls 0 = 0 := rfl
theorem fln_succ (ls : List (List Nat)) (k : Nat) (h : k < ls.length) : fln ls (k + 1) = fln ls k + (ls.getD k []).length := by
  unfold fln; rw [flat_snoc ls k h, List.length_append]
theorem fln_le (ls : List (List Nat)) (k : Nat) : fln ls k ≤ ls.flatten.length := flat_le ls k
theorem fln_all (ls : List (List Nat)) : fln ls ls.length = ls.flatten.length := by unfold fln; rw [List.take_length]
set_option maxRecDepth 100000 in
set_option maxHeartbeats 1000000 in
theorem concat_any (n c : Nat) (A : Option Addr) (ls : List (List Nat)) (w : World) (h : SlS w A n c ls) (hl : ls.flatten.length ≤ 1000000000) (hn : n ≤ 1000000000) :
    Calls Try.prog 23 #[.slice A n c] w (BPost ls.flatten w) := by
  have H := Lib.hid h; clear h
  have HL := Lib.hid hl; clear hl
  go_enter Try.func23, Try.ntmps23
  go_wp2_with fail
  go_loop [3, 11] (fun s i => ∃ k : Nat, k ≤ n ∧ i = .int .i64 k ∧ s = .int .i64 (fln ls k : Nat)) (fun _ i => n - (intOf i).toNat)
  case atStart => exact ⟨0, by omega, rfl, rfl⟩
  case round =>
    obtain ⟨k, hk, rfl, rfl⟩ := hrel
    by_cases hlt : k < n
    · have hkl : k < ls.length := by rw [← H.out.len]; exact hlt
      obtain ⟨b, o, rfl, _, hc⟩ := H.out.rd (by omega)
      obtain ⟨A', n', c', hck, hs'⟩ := hc k hkl
      clear hc
      have h1 := fln_le ls k
      have h2 := fln_le ls (k + 1)
      have hlen := hs'.len
      have h3 := fln_succ ls k hkl
      have h4 := HL.out
      clear hs'
      generalize fln ls k = x at *
      generalize hy : fln ls (k + 1) = y at *
      have HY := Lib.hid hy; clear hy
      have h5 : x ≤ 1000000000 := by omega
      have h6 : n' ≤ 1000000000 := by omega
      rw [← hlen] at h3
      have H3 := Lib.hid h3; clear h3
      clear h1 h2 h4 hlen
      go_wp2_with fail
      refine ⟨⟨k + 1, by omega, by go_num, ?_⟩, by simp [intOf]; omega⟩
      rw [HY.out, H3.out]; go_num
    · obtain rfl : k = n := by omega
      have HT : Hid (fln ls k = ls.flatten.length) := by show _ = _; rw [H.out.len, fln_all]
      have hf0 := HL.out
      generalize hfl : fln ls k = x at *
      have HX : Hid (x ≤ 1000000000) := by show _ ≤ _; rw [HT.out]; exact hf0
      clear hf0 hfl
      go_wp2_with fail
      (with_reducible refine (grow_any x _ HX.out).mono ?_)
      rintro e w1 ⟨v1, rfl, ho1, hb1⟩
      have O1 := Lib.hid ho1; clear ho1
      have B1 := Lib.hid hb1; clear hb1
      clear HT
      go_wp2_with fail
      go_loopw [6, 27] (fun v i wr => ∃ m : Nat, m ≤ k ∧ i = .int .i64 m ∧ OwnB wr w.heap.size v (ls.take m).flatten ∧ Below w.heap.size w wr) (fun _ i _ => k - (intOf i).toNat)
      case atStart => exact ⟨0, by omega, rfl, O1.out, B1.out⟩
      case round =>
        obtain ⟨m, hm, rfl, ho, hb⟩ := hrel
        clear O1 B1
        have O := Lib.hid ho; clear ho
        have B := Lib.hid hb; clear hb
        by_cases hlm : m < k
        · have hml : m < ls.length := by rw [← H.out.len]; exact hlm
          obtain ⟨b, o, rfl, _, hc⟩ := (H.out.on B.out).rd (by omega)
          obtain ⟨A', n', c', hck, hs'⟩ := hc m hml
          clear hc
          have S' := Lib.hid hs'; clear hs'
          have HS := Lib.hid (flat_snoc ls m hml)
          have HV : Hid ((ls.take m).flatten.length + (ls.getD m []).length ≤ 140737488355328) := by
            show _ ≤ _
            have := flat_le ls (m + 1)
            rw [HS.out, List.length_append] at this
            have := HL.out
            omega
          go_wp2_with (at_builtin; refine wpList_append_own_rd rfl (.tmp 31) (.tmp 32) rfl w.heap.size _ _ rfl O.out n' c' A' _ rfl S'.out HV.out B.out.size ?_; intro v2 w2 hown2 hb2; have O2 := Lib.hid hown2; have B2 := Lib.hid hb2; clear hown2 hb2)
          go_roundw
          case rel => exact ⟨m + 1, by omega, by go_num, by rw [HS.out]; exact O2.out, B.out.trans B2.out⟩
          case measure => simp [intOf]; omega
        · obtain rfl : m = k := by omega
          have HT : Hid ((ls.take m).flatten = ls.flatten) := by show _ = _; rw [H.out.len, List.take_length]
          go_wp2_with fail
          go_ret
          exact BPost.mk (by rw [← HT.out]; exact O.out) B.out
end Go.Proofs.Ytinebeonnhfebaa
