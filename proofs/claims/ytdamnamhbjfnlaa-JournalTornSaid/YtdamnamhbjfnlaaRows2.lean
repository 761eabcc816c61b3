/-
  Slices of slices of bytes: read as lists of lists; rows of a call's own.
-/
import Derived.Test.YtdamnamhbjfnlaaBytes
import Derived.Deep.Matrix
namespace Go.Proofs.Ytdamnamhbjfnlaa
open Go.RowKit

theorem rowInfo : (Try.prog.info? 33).map (fun i => (i.zero, i.size, i.bytes)) = some (some (.slice none 0 0), 1, 24) := by kernel_rfl
/-- A slice value's parts read as the rows of bytes ls. -/
structure SlS (w : World) (A : Option Addr) (n c : Nat) (ls : List (List Nat)) : Prop where
  rd : 0 < ls.length → ∃ b o, A = some ⟨b, o, none⟩ ∧ b < w.heap.size ∧ ∀ j, j < ls.length → ∃ A' n' c', w.cell? ⟨b, o + j, none⟩ = some (.slice A' n' c') ∧ Sl w A' n' c' (ls.getD j [])
  len : n = ls.length
  cap : n ≤ c
  max : c ≤ maxLen
  nil : A = none → c = 0
theorem SlS.on {w w' : World} {A : Option Addr} {n c : Nat} {ls : List (List Nat)} (h : SlS w A n c ls) (hb : Below w.heap.size w w') : SlS w' A n c ls :=
  ⟨fun hl => by
    obtain ⟨b, o, e, h1, h2⟩ := h.rd hl
    refine ⟨b, o, e, Nat.lt_of_lt_of_le h1 hb.size, fun j hj => ?_⟩
    obtain ⟨A', n', c', h3, h4⟩ := h2 j hj
    exact ⟨A', n', c', (hb.cell (p := ⟨b, o + j, none⟩) h1).trans h3, h4.on hb⟩, h.len, h.cap, h.max, h.nil⟩
theorem SlS.none_ (w : World) : SlS w none 0 0 [] := ⟨by simp, rfl, Nat.le_refl _, Nat.zero_le _, fun _ => rfl⟩
theorem SlS.take {w : World} {A : Option Addr} {n c : Nat} {ls : List (List Nat)} (h : SlS w A n c ls) {k : Nat} (hk : k ≤ n) : SlS w A k c (ls.take k) :=
  ⟨fun hl => by
    rw [List.length_take] at hl
    obtain ⟨b, o, e, h1, h2⟩ := h.rd (by omega)
    refine ⟨b, o, e, h1, fun j hj => ?_⟩
    rw [List.length_take] at hj
    obtain ⟨A', n', c', h3, h4⟩ := h2 j (by omega)
    refine ⟨A', n', c', h3, ?_⟩
    rw [getD_at (by rw [List.length_take]; omega), List.getElem_take, ← getD_at (d := [])]
    exact h4, by rw [List.length_take, ← h.len]; omega, by have := h.cap; omega, h.max, h.nil⟩
/-- What the row's step tells of an argument of rows of bytes. -/
theorem rows_of {w : World} {a : Addr} {base len cap : Nat} {A : Nat → Option Addr} {L C : Nat → Nat} {Z : Nat → List Int} (hl : len ≤ cap) (hm : cap ≤ maxLen)
    (h : ∀ r, r < cap → w.cell? (a.add r) = some (.slice (A r) (L r) (C r)) ∧ L r ≤ C r ∧ C r ≤ maxLen ∧ (Z r).length = C r ∧ (∀ n ∈ Z r, (Lit.int .u8 n).wf = true) ∧ (A r = none → C r = 0) ∧
      ∀ a', A r = some a' → base ≤ a'.block ∧ ∀ c, c < C r → w.cell? (a'.add c) = some (.int .u8 ((Z r).getD c 0))) : ∃ ls, SlS w (some a) len cap ls := by
  have each : ∀ r, ∃ l, r < cap → Sl w (A r) (L r) (C r) l := by
    intro r
    by_cases hr : r < cap
    · obtain ⟨_, h1, h2, h3, h4, h5, h6⟩ := h r hr
      rcases hA : A r with _ | a'
      · have hc := h5 hA
        have hL : L r = 0 := by omega
        exact ⟨[], fun _ => by rw [hc, hL]; exact Sl.none_ w⟩
      · obtain ⟨_, h7⟩ := h6 a' hA
        obtain ⟨l, hs⟩ := sl_of (w := w) (a := some a') (len := L r) (cap := C r) (zs := Z r) (.inr ⟨a', rfl, h1, h2, h3, fun i hi => h7 i (by omega), h4⟩)
        exact ⟨l, fun _ => hs⟩
    · exact ⟨[], fun hr' => absurd hr' hr⟩
  obtain ⟨f, hf⟩ := Classical.axiomOfChoice each
  refine ⟨(List.range len).map f, fun h0 => ?_, by simp, hl, hm, fun h => by cases h⟩
  simp only [List.length_map, List.length_range] at h0
  obtain ⟨b, o, spot⟩ := a
  have hc0 := (h 0 (by omega)).1
  have hspot : spot = none := by simpa [Addr.add] using World.cell?_spot hc0
  subst hspot
  refine ⟨b, o, rfl, ?_, fun j hj => ?_⟩
  · have := World.block_lt_of_cell? w _ hc0
    simpa [Addr.add] using this
  · simp only [List.length_map, List.length_range] at hj
    have hadd : (⟨b, o, none⟩ : Addr).add j = ⟨b, o + j, none⟩ := by unfold Addr.add; split <;> simp_all
    have hcj := (h j (by omega)).1
    rw [hadd] at hcj
    refine ⟨A j, L j, C j, hcj, ?_⟩
    rw [getD_at (by simp; exact hj), List.getElem_map, List.getElem_range]
    exact hf j (by omega)
/-- One cell of a row of the call's own reads as l, in another block than the row's. -/
def Fits (w : World) (v x : Value) (l : List Nat) : Prop := ∃ A n c, x = .slice A n c ∧ Sl w A n c l ∧ (0 < l.length → ∀ a, A = some a → v.ownBlock ≠ some a.block)
/-- Rows of bytes, in a row of the call's own. -/
def OwnS (w : World) (B : Nat) (v : Value) (ls : List (List Nat)) : Prop :=
  ∃ xs, w.ownsRow B 33 1 v ls.length xs ∧ ∀ j, j < ls.length → ∃ x, xs[j]? = some x ∧ Fits w v x (ls.getD j [])
theorem OwnS.none_ (w : World) (B : Nat) : OwnS w B (.slice none 0 0) [] := ⟨[], World.ownsRow_nil _ _ _ _, fun j hj => by simp at hj⟩
theorem OwnS.base {w : World} {B : Nat} {v : Value} {ls : List (List Nat)} (h : OwnS w B v ls) : ∀ k, v.ownBlock = some k → B ≤ k ∧ k < w.heap.size := by
  obtain ⟨xs, h1, _⟩ := h
  exact h1.lt
theorem OwnS.sls {w : World} {B : Nat} {v : Value} {ls : List (List Nat)} (h : OwnS w B v ls) : ∃ A c, v = .slice A ls.length c ∧ SlS w A ls.length c ls := by
  obtain ⟨xs, ho, hf⟩ := h
  rcases ho.2 with ⟨rfl, h0⟩ | ⟨g, cap, cur, rfl, _, hg, h1, h2, _⟩
  · have hl : ls = [] := by simpa using h0
    subst hl
    exact ⟨none, 0, rfl, SlS.none_ w⟩
  · refine ⟨_, cap, rfl, fun _ => ⟨g, 0, rfl, (Array.getElem?_eq_some_iff.1 hg).1, fun j hj => ?_⟩, rfl, h1, h2, fun h => by cases h⟩
    obtain ⟨x, hx, A', n', c', rfl, hs, _⟩ := hf j hj
    exact ⟨A', n', c', by rw [Nat.zero_add, ho.cellAt j (by omega), hx], hs⟩
theorem OwnS.below {w w' : World} {B : Nat} {v : Value} {ls : List (List Nat)} (h : OwnS w B v ls) (hb : Below w.heap.size w w') : OwnS w' B v ls := by
  obtain ⟨xs, ho, hf⟩ := h
  refine ⟨xs, own_below ho hb, fun j hj => ?_⟩
  obtain ⟨x, hx, A', n', c', e, hs, hfar⟩ := hf j hj
  exact ⟨x, hx, A', n', c', e, hs.on hb, hfar⟩
theorem OwnS.lower {w : World} {B B' : Nat} {v : Value} {ls : List (List Nat)} (h : OwnS w B v ls) (hB : B' ≤ B) : OwnS w B' v ls := by
  obtain ⟨xs, ho, hf⟩ := h
  exact ⟨xs, own_lower ho hB, hf⟩
/-- A cell fits still, behind a write to the row. -/
theorem Fits.grown {w w' : World} {v v' x : Value} {l : List Nat} (h : Fits w v x l) (hg : w.grownBy w' v.ownBlock) (hv : v'.ownBlock = v.ownBlock ∨ v'.ownBlock = some w.heap.size) : Fits w' v' x l := by
  obtain ⟨A, n, c, e, hs, hf⟩ := h
  refine ⟨A, n, c, e, hs.off hg hf, fun hl a ha => ?_⟩
  rcases hv with hv | hv
  · rw [hv]; exact hf hl a ha
  · rw [hv]
    have := hs.block hl a ha
    intro e2; injection e2; omega
/-- append of rows to rows of the call's own. -/
theorem wpList_append_rows {w : World} {ops : Array Oper} {rest : List Oper} {op : Oper} {a : Act} {Q : Exit → Act → World → Prop} (hgd : op.guard = none) (s x : Operand)
    (ho : op.op = .call { callee := .builtin .append, args := #[s, x], argTypes := #[34, 34] })
    (base : Nat) (v : Value) (ls : List (List Nat)) (hs : a.eval s = v) (hown : OwnS w base v ls) (m c : Nat) (A : Option Addr) (ms : List (List Nat)) (hx : a.eval x = .slice A m c) (hr : SlS w A m c ms)
    (hfar : ∀ j b o, j < ms.length → A = some ⟨b, o, none⟩ → ∀ A' n' c', w.cell? ⟨b, o + j, none⟩ = some (.slice A' n' c') → 0 < (ms.getD j []).length → ∀ a, A' = some a → v.ownBlock ≠ some a.block)
    (hlen : ls.length + ms.length ≤ 4000000000) (hbase : base ≤ w.heap.size)
    (h : ∀ v' w', OwnS w' base v' (ls ++ ms) → Below base w w' → wpList Try.prog ops Q rest (a.put op.dst v') w') : wpList Try.prog ops Q (op :: rest) a w := by
  obtain ⟨i0, hi0, hz0, hz1, hz2⟩ := info_parts rowInfo
  obtain ⟨xs, ho1, hf⟩ := hown
  have hxl := ho1.1
  rw [Nat.mul_one] at hxl
  rcases A with _ | ad
  · obtain rfl := hr.nil rfl
    have hm : ms = [] := by
      rcases ms with _ | ⟨y, l⟩
      · rfl
      · obtain ⟨_, _, h0, _⟩ := hr.rd (by simp); cases h0
    subst hm
    obtain rfl := hr.len
    refine wpList_append_own_none hgd s x 34 ho base 33 i0 1 Try.underlying34 hi0 v ls.length xs hs ho1 hx ?_
    exact h v w (by rw [List.append_nil]; exact ⟨xs, ho1, hf⟩) (Below.refl _ _)
  · obtain ⟨news, hnl, hnw⟩ : ∃ news : List Value, news.length = ms.length ∧ ∀ j, j < ms.length → ∃ u, news[j]? = some u ∧ w.cell? (ad.add j) = some u ∧ Fits w v u (ms.getD j []) := by
      rcases Nat.eq_zero_or_pos ms.length with h0 | h0
      · exact ⟨[], by rw [h0]; rfl, fun j hj => by omega⟩
      · obtain ⟨b, o, e, _, hc⟩ := hr.rd h0
        injection e with e
        subst e
        refine ⟨(List.range ms.length).map fun j => (w.cell? ⟨b, o + j, none⟩).getD default, by simp, fun j hj => ?_⟩
        obtain ⟨A', n', c', h1, h2⟩ := hc j hj
        refine ⟨.slice A' n' c', ?_, ?_, A', n', c', rfl, h2, fun hl => hfar j b o hj rfl A' n' c' h1 hl⟩
        · rw [List.getElem?_map, List.getElem?_range hj, Option.map_some, h1, Option.getD_some]
        · have : (⟨b, o, none⟩ : Addr).add j = ⟨b, o + j, none⟩ := by unfold Addr.add; split <;> simp_all
          rw [this, h1]
    refine wpList_append_own_at w hgd s x 34 ho base 33 i0 _ 1 24 Try.underlying34 hi0 hz0 hz1 hz2 rfl (by omega) v ls.length xs hs ho1 ad m c news hx (by rw [hnl, hr.len, Nat.mul_one]) ?_ ?_ (by unfold maxLen; rw [hr.len]; omega) (by rw [hr.len]; omega) hbase ?_
    · intro j u hu
      have hj : j < ms.length := by
        rcases Nat.lt_or_ge j ms.length with h | h
        · exact h
        · rw [List.getElem?_eq_none (by omega)] at hu; cases hu
      obtain ⟨u', e1, e2, _⟩ := hnw j hj
      rw [hu] at e1; injection e1 with e1; subst e1; exact e2
    · intro u hu
      obtain ⟨j, hj, rfl⟩ := List.mem_iff_getElem.1 hu
      obtain ⟨u', e1, _, A', n', c', rfl, _⟩ := hnw j (by omega)
      rw [List.getElem?_eq_getElem hj] at e1
      injection e1 with e1
      rw [e1]; rfl
    · intro v' w' h1 h2 _ h4
      refine h v' w' ⟨xs ++ news, ?_, fun j hj => ?_⟩ ((Below.refl base w).grown h2 hbase (own_base ho1))
      · rw [List.length_append, ← hr.len]; exact h1
      · rw [List.length_append] at hj
        by_cases hjl : j < ls.length
        · obtain ⟨y, hy, hfy⟩ := hf j hjl
          refine ⟨y, ?_, ?_⟩
          · rw [List.getElem?_append_left (by omega)]; exact hy
          · rw [getD_append_l _ _ _ _ hjl]; exact hfy.grown h2 h4
        · obtain ⟨u, e1, _, hfu⟩ := hnw (j - ls.length) (by omega)
          refine ⟨u, ?_, ?_⟩
          · rw [List.getElem?_append_right (by omega), hxl]; exact e1
          · rw [getD_append_r _ _ _ _ (by omega) hj]; exact hfu.grown h2 h4
/-- One row in a cell of its own. -/
theorem SlS.one {w : World} {A : Option Addr} {n c : Nat} {l : List Nat} (h : Sl w A n c l) : SlS (w.alloc (.cells #[.slice A n c] 33)) (some ⟨w.heap.size, 0, none⟩) 1 1 [l] :=
  ⟨fun _ => ⟨_, 0, rfl, by simp, fun j hj => by
    obtain rfl : j = 0 := by simpa using hj
    exact ⟨A, n, c, by rw [World.cell?_alloc_at _ _ _ _ rfl]; rfl, h.on ((Below.refl _ _).alloc (Nat.le_refl _) _)⟩⟩, rfl, Nat.le_refl _, by unfold maxLen; omega, fun h => by cases h⟩
/-- append of one row to rows of the call's own. -/
theorem wpList_append_row {w : World} {ops : Array Oper} {rest : List Oper} {op : Oper} {a : Act} {Q : Exit → Act → World → Prop} (hgd : op.guard = none) (s x : Operand)
    (ho : op.op = .call { callee := .builtin .append, args := #[s, x], argTypes := #[34, 34] })
    (base : Nat) (v : Value) (ls : List (List Nat)) (hs : a.eval s = v) (hown : OwnS w base v ls) (A : Option Addr) (n c : Nat) (l : List Nat) (hl : Sl w A n c l) (hx : a.eval x = .slice (some ⟨w.heap.size, 0, none⟩) 1 1)
    (hfar : 0 < l.length → ∀ a, A = some a → v.ownBlock ≠ some a.block)
    (hlen : ls.length ≤ 3000000000) (hbase : base ≤ w.heap.size)
    (h : ∀ v' w', OwnS w' base v' (ls ++ [l]) → Below base w w' → wpList Try.prog ops Q rest (a.put op.dst v') w') : wpList Try.prog ops Q (op :: rest) a (w.alloc (.cells #[.slice A n c] 33)) := by
  have hb := (Below.refl w.heap.size w).alloc (Nat.le_refl _) (.cells #[.slice A n c] 33)
  refine wpList_append_rows hgd s x ho base v ls hs (hown.below hb) 1 1 _ [l] hx (SlS.one hl) ?_ (by simp; omega) (by simp; omega) (fun v' w' h1 h2 => h v' w' h1 ((hb.mono hbase).trans h2))
  intro j b o hj e A' n' c' hc hlj
  obtain rfl : j = 0 := by simpa using hj
  injection e with e
  injection e with e1 e2
  subst e1 e2
  rw [World.cell?_alloc_at _ _ _ _ rfl] at hc
  simp only [Option.some.injEq, Nat.zero_add, List.getElem?_toArray, List.getElem?_cons_zero, Value.slice.injEq] at hc
  obtain ⟨rfl, rfl, rfl⟩ := hc
  exact hfar hlj
/-- Rows that were there before the row was made lie in other blocks. -/
theorem SlS.far {w0 w : World} {A : Option Addr} {n c : Nat} {ms : List (List Nat)} {v : Value} (h : SlS w0 A n c ms) (hb : Below w0.heap.size w0 w) (hv : ∀ k, v.ownBlock = some k → w0.heap.size ≤ k) :
    ∀ j b o, j < ms.length → A = some ⟨b, o, none⟩ → ∀ A' n' c', w.cell? ⟨b, o + j, none⟩ = some (.slice A' n' c') → 0 < (ms.getD j []).length → ∀ a, A' = some a → v.ownBlock ≠ some a.block := by
  intro j b o hj hA A' n' c' hc hl a ha e
  obtain ⟨b', o', e1, hbb, hcc⟩ := h.rd (by omega)
  rw [hA] at e1
  injection e1 with e1
  injection e1 with e2 e3
  subst e2 e3
  obtain ⟨A2, n2, c2, h1, h2⟩ := hcc j hj
  rw [hb.cell (p := ⟨b, o + j, none⟩) hbb, h1] at hc
  simp only [Option.some.injEq, Value.slice.injEq] at hc
  obtain ⟨rfl, rfl, rfl⟩ := hc
  have h3 := h2.block hl a ha
  have h4 := hv _ e
  omega
theorem SlS.two {w : World} {A1 A2 : Option Addr} {n1 c1 n2 c2 : Nat} {l1 l2 : List Nat} (h1 : Sl w A1 n1 c1 l1) (h2 : Sl w A2 n2 c2 l2) :
    SlS (w.alloc (.cells #[.slice A1 n1 c1, .slice A2 n2 c2] 33)) (some ⟨w.heap.size, 0, none⟩) 2 2 [l1, l2] := by
  have hb := (Below.refl w.heap.size w).alloc (Nat.le_refl _) (.cells #[.slice A1 n1 c1, .slice A2 n2 c2] 33)
  refine ⟨fun _ => ⟨_, 0, rfl, by simp, fun j hj => ?_⟩, rfl, Nat.le_refl _, by unfold maxLen; omega, fun h => by cases h⟩
  have hj2 : j = 0 ∨ j = 1 := by simp at hj; omega
  rcases hj2 with rfl | rfl
  · exact ⟨A1, n1, c1, by rw [World.cell?_alloc_at _ _ _ _ rfl]; rfl, h1.on hb⟩
  · exact ⟨A2, n2, c2, by rw [World.cell?_alloc_at _ _ _ _ rfl]; rfl, h2.on hb⟩
end Go.Proofs.Ytdamnamhbjfnlaa
