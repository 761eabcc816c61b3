/-
  Numbers in memory: slices of int that read as lists, numbers of a call's own.
-/
import Derived.Test.YtgljepjflpijiaaRows
import Derived.Test.YtgljepjflpijiaaBase
namespace Go.Proofs.Ytgljepjflpijiaa
open Go.RowKit

theorem info_int : (Try.prog.info? 3).map (fun i => (i.zero, i.size, i.bytes)) = some (some (.int .i64 0), 1, 8) := by kernel_rfl
def vali (l : List Int) : List Value := l.map fun x => .int .i64 x
theorem vali_length (l : List Int) : (vali l).length = l.length := by simp [vali]
theorem vali_append (a b : List Int) : vali (a ++ b) = vali a ++ vali b := by simp [vali]
theorem vali_at {l : List Int} {j : Nat} (h : j < l.length) : (vali l)[j]? = some (.int .i64 (l.getD j 0)) := by
  rw [getD_at h]; simp [vali, h]
/-- A slice value's parts read as the numbers l. -/
structure SlI (w : World) (A : Option Addr) (n c : Nat) (l : List Int) : Prop where
  rd : 0 < l.length → ∃ b o, A = some ⟨b, o, none⟩ ∧ b < w.heap.size ∧ ∀ j, j < l.length → w.cell? ⟨b, o + j, none⟩ = some (.int .i64 (l.getD j 0))
  len : n = l.length
  cap : n ≤ c
  max : c ≤ maxLen
theorem SlI.on {w w' : World} {A : Option Addr} {n c : Nat} {l : List Int} (h : SlI w A n c l) (hb : Below w.heap.size w w') : SlI w' A n c l :=
  ⟨fun hl => by
    obtain ⟨b, o, e, h1, h2⟩ := h.rd hl
    exact ⟨b, o, e, Nat.lt_of_lt_of_le h1 hb.size, fun j hj => (hb.cell (p := ⟨b, o + j, none⟩) h1).trans (h2 j hj)⟩, h.len, h.cap, h.max⟩
theorem SlI.take {w : World} {A : Option Addr} {n c : Nat} {l : List Int} (h : SlI w A n c l) (k : Nat) : SlI w A (min n k) c (l.take k) :=
  ⟨fun hl => by
    rw [List.length_take] at hl
    obtain ⟨b, o, e, h1, h2⟩ := h.rd (by omega)
    refine ⟨b, o, e, h1, fun j hj => ?_⟩
    rw [List.length_take] at hj
    rw [h2 j (by omega), getD_at (by omega), getD_at (by rw [List.length_take]; omega), List.getElem_take], by rw [List.length_take, ← h.len]; omega, by have := h.cap; omega, h.max⟩
theorem SlI.none_ (w : World) : SlI w none 0 0 [] := ⟨by simp, rfl, Nat.le_refl _, Nat.zero_le _⟩
/-- What the row's step tells of an argument of numbers. -/
theorem slI_of {w : World} {a : Option Addr} {len cap : Nat} {zs : List Int}
    (h : (a = none ∧ len = 0 ∧ cap = 0 ∧ zs = []) ∨
      ∃ x, a = some x ∧ len ≤ cap ∧ cap ≤ maxLen ∧ zs.length = cap ∧ (∀ i, i < zs.length → w.cell? (x.add i) = some (.int .i64 (zs.getD i 0))) ∧ ∀ n ∈ zs, (Lit.int .i64 n).wf = true) :
    ∃ l, SlI w a len cap l ∧ ∀ x ∈ l, -9223372036854775808 ≤ x ∧ x ≤ 9223372036854775807 := by
  rcases h with ⟨rfl, rfl, rfl, rfl⟩ | ⟨x, rfl, hl, hm, hz, hcell, hwz⟩
  · exact ⟨[], SlI.none_ _, by simp⟩
  · have hb : ∀ n ∈ zs, -9223372036854775808 ≤ n ∧ n ≤ 9223372036854775807 := by
      intro n hn
      have := hwz n hn
      simp [Lit.wf, IntKind.min, IntKind.max, IntKind.signed, IntKind.bits] at this
      omega
    refine ⟨zs.take len, ⟨?_, by simp; omega, hl, hm⟩, fun y hy => hb y (List.mem_of_mem_take hy)⟩
    intro h0
    simp only [List.length_take] at h0
    obtain ⟨b, off, spot⟩ := x
    have hc := hcell 0 (by omega)
    have hspot : spot = none := by simpa [Addr.add] using World.cell?_spot hc
    subst hspot
    refine ⟨b, off, rfl, ?_, fun j hj => ?_⟩
    · have := block_lt_of_cell hc
      simpa [Addr.add] using this
    · simp only [List.length_take] at hj
      have hcj := hcell j (by omega)
      have hadd : (⟨b, off, none⟩ : Addr).add j = ⟨b, off + j, none⟩ := by unfold Addr.add; split <;> simp_all
      rw [hadd] at hcj
      rw [hcj, getD_at (by omega), getD_at (by simp; omega), List.getElem_take]
def OwnI (w : World) (B : Nat) (v : Value) (l : List Int) : Prop := w.ownsRow B 3 1 v l.length (vali l)
theorem OwnI.sl {w : World} {B : Nat} {v : Value} {l : List Int} (h : OwnI w B v l) : ∃ A c, v = .slice A l.length c ∧ SlI w A l.length c l := by
  rcases World.ownsRow.lt h with _
  rcases h.2 with ⟨rfl, h0⟩ | ⟨g, cap, cur, rfl, _, hg, h1, h2, _⟩
  · have hl : l = [] := by simpa using h0
    subst hl
    exact ⟨none, 0, rfl, SlI.none_ w⟩
  · refine ⟨_, cap, rfl, fun h0 => ⟨g, 0, rfl, (Array.getElem?_eq_some_iff.1 hg).1, fun j hj => ?_⟩, rfl, h1, h2⟩
    rw [Nat.zero_add, World.ownsRow.cellAt h j (by omega), vali_at hj]
theorem SlI.apart {w w' : World} {A : Option Addr} {n c r : Nat} {l : List Int} (h : SlI w A n c l) (hg : w.grownBy w' (some r)) (hr : ∀ a, A = some a → a.block ≠ r) : SlI w' A n c l :=
  ⟨fun hl => by
    obtain ⟨b, o, e, hb, hc⟩ := h.rd hl
    exact ⟨b, o, e, Nat.lt_of_lt_of_le hb hg.size, fun j hj => hg.cell (hc j hj) (fun e2 => hr _ e (by injection e2))⟩, h.len, h.cap, h.max⟩
theorem OwnI.below {w w' : World} {B : Nat} {v : Value} {l : List Int} (h : OwnI w B v l) (hb : Below w.heap.size w w') : OwnI w' B v l := own_below h hb
/-- append of one number to numbers of the call's own. -/
theorem wpList_append_num {w : World} {ops : Array Oper} {rest : List Oper} {op : Oper} {a : Act} {Q : Exit → Act → World → Prop} (hgd : op.guard = none) (s x : Operand)
    (ho : op.op = .call { callee := .builtin .append, args := #[s, x], argTypes := #[51, 51] })
    (base : Nat) (v : Value) (l : List Int) (hs : a.eval s = v) (hown : OwnI w base v l) (X : Int) (hx : a.eval x = .slice (some ⟨w.heap.size, 0, none⟩) 1 1)
    (hl : l.length ≤ 3000000) (hB : base ≤ w.heap.size)
    (h : ∀ v' w', OwnI w' base v' (l ++ [X]) → w.grownBy w' v.ownBlock → wpList Try.prog ops Q rest (a.put op.dst v') w') : wpList Try.prog ops Q (op :: rest) a (w.alloc (.cells #[.int .i64 X] 3)) := by
  obtain ⟨i0, hi0, hz0, hz1, hz2⟩ := info_parts info_int
  refine wpList_append_own _ hgd s x 51 ho base 3 i0 (.int .i64 0) 1 8 Try.underlying51 hi0 hz0 hz1 hz2 rfl (by decide) v l.length (vali l) hs (World.ownsRow.alloc hown _) ⟨w.heap.size, 0, none⟩ 1 1 [.int .i64 X] hx rfl ?_ ?_ (by unfold maxLen; omega) (by omega) (by simp; omega) ?_
  · intro j u hu
    rcases j with _ | j
    · simp at hu; subst hu
      have : ((⟨w.heap.size, 0, none⟩ : Addr).add 0) = ⟨w.heap.size, 0, none⟩ := by unfold Addr.add; split <;> simp_all
      rw [this, World.cell?_alloc_at _ _ _ _ rfl]; rfl
    · simp at hu
  · intro u hu; simp at hu; subst hu; rfl
  · intro v' w' h1 h2 _
    refine h v' w' ?_ (grown_trans (World.grownBy_alloc w _ _) h2)
    unfold OwnI
    rw [vali_append, List.length_append]; exact h1
end Go.Proofs.Ytgljepjflpijiaa
