/-
  Rows of bytes of a call's own, with what holds of the blocks in which their bytes lie; append of one row, with what it leaves.
-/
import Derived.Test.YtdamnamhbjfnlaaRows2
namespace Go.Proofs.Ytdamnamhbjfnlaa
open Go.RowKit

/-- Rows of bytes in a row of the call's own; G holds of the blocks of their bytes. -/
def OwnP (G : Nat → Prop) (w : World) (B : Nat) (v : Value) (ls : List (List Nat)) : Prop :=
  ∃ xs, w.ownsRow B 33 1 v ls.length xs ∧ ∀ j, j < ls.length → ∃ x, xs[j]? = some x ∧ Fits w v x (ls.getD j []) ∧ ∀ a n c, x = .slice (some a) n c → G a.block
section
variable {G : Nat → Prop} {w w' : World} {B : Nat} {v : Value} {ls : List (List Nat)}
theorem OwnP.none_ (w : World) (B : Nat) : OwnP G w B (.slice none 0 0) [] := ⟨[], World.ownsRow_nil _ _ _ _, fun j hj => by simp at hj⟩
theorem OwnP.rows (h : OwnP G w B v ls) : OwnS w B v ls := by
  obtain ⟨xs, h1, h2⟩ := h
  exact ⟨xs, h1, fun j hj => by obtain ⟨x, h3, h4, _⟩ := h2 j hj; exact ⟨x, h3, h4⟩⟩
theorem OwnS.toP (h : OwnS w B v ls) : OwnP (fun _ => True) w B v ls := by
  obtain ⟨xs, h1, h2⟩ := h
  exact ⟨xs, h1, fun j hj => by obtain ⟨x, h3, h4⟩ := h2 j hj; exact ⟨x, h3, h4, fun _ _ _ _ => trivial⟩⟩
theorem OwnP.below (h : OwnP G w B v ls) (hb : Below w.heap.size w w') : OwnP G w' B v ls := by
  obtain ⟨xs, ho, hf⟩ := h
  refine ⟨xs, own_below ho hb, fun j hj => ?_⟩
  obtain ⟨x, hx, ⟨A', n', c', e, hs, hfar⟩, hg⟩ := hf j hj
  exact ⟨x, hx, ⟨A', n', c', e, hs.on hb, hfar⟩, hg⟩
/-- Its one row. -/
theorem OwnP.one {l : List Nat} {A : Option Addr} {n c : Nat} (h : OwnP G w B (.slice A n c) [l]) : ∃ b A' n' c', A = some ⟨b, 0, none⟩ ∧ n = 1 ∧ 1 ≤ c ∧ b < w.heap.size ∧ B ≤ b ∧ w.cell? ⟨b, 0, none⟩ = some (.slice A' n' c') ∧ Sl w A' n' c' l ∧ ∀ a, A' = some a → G a.block := by
  obtain ⟨xs, ho, hf⟩ := h
  obtain ⟨x, hx, ⟨A', n', c', rfl, hs, _⟩, hg⟩ := hf 0 (by simp)
  rcases ho.2 with ⟨_, h0⟩ | ⟨g, cap, cur, e, hB, hh, hn, _⟩
  · simp at h0
  · injection e with e1 e2 e3
    subst e1 e3
    refine ⟨g, A', n', c', rfl, e2, hn, (Array.getElem?_eq_some_iff.1 hh).1, hB, ?_, hs, fun a ha => hg a n' c' (by rw [ha])⟩
    have := World.ownsRow.cellAt (g := g) (cap := c) (by subst e2; exact ho) 0 (by simp)
    rw [this, hx]
end
theorem wpList_append_rowP {G : Nat → Prop} {w : World} {ops : Array Oper} {rest : List Oper} {op : Oper} {a : Act} {Q : Exit → Act → World → Prop} (hgd : op.guard = none) (s x : Operand)
    (ho : op.op = .call { callee := .builtin .append, args := #[s, x], argTypes := #[34, 34] })
    (base : Nat) (v : Value) (ls : List (List Nat)) (hs : a.eval s = v) (hown : OwnP G w base v ls) (A : Option Addr) (n c : Nat) (l : List Nat) (hl : Sl w A n c l) (hA : ∀ a, A = some a → G a.block) (hx : a.eval x = .slice (some ⟨w.heap.size, 0, none⟩) 1 1)
    (hfar : 0 < l.length → ∀ a, A = some a → v.ownBlock ≠ some a.block) (hlen : ls.length ≤ 3000000000) (hbase : base ≤ w.heap.size)
    (h : ∀ v' w', OwnP G w' base v' (ls ++ [l]) → w.grownBy w' v.ownBlock → wpList Try.prog ops Q rest (a.put op.dst v') w') : wpList Try.prog ops Q (op :: rest) a (w.alloc (.cells #[.slice A n c] 33)) := by
  obtain ⟨i0, hi0, hz0, hz1, hz2⟩ := info_parts rowInfo
  have hb := (Below.refl w.heap.size w).alloc (Nat.le_refl _) (.cells #[.slice A n c] 33)
  obtain ⟨xs, ho1, hf⟩ := hown.below hb
  have hxl := ho1.1
  rw [Nat.mul_one] at hxl
  refine wpList_append_own_at (w.alloc (.cells #[.slice A n c] 33)) hgd s x 34 ho base 33 i0 _ 1 24 Try.underlying34 hi0 hz0 hz1 hz2 rfl (by omega) v ls.length xs hs ho1 ⟨w.heap.size, 0, none⟩ 1 1 [.slice A n c] hx rfl ?_ ?_ (by unfold maxLen; omega) (by omega) (by simp; omega) ?_
  · intro j u hu
    rcases j with _ | j
    · simp at hu
      subst hu
      have : ((⟨w.heap.size, 0, none⟩ : Addr).add 0) = ⟨w.heap.size, 0, none⟩ := by unfold Addr.add; split <;> simp_all
      rw [this, World.cell?_alloc_at _ _ _ _ rfl]; rfl
    · simp at hu
  · intro u hu; simp at hu; subst hu; rfl
  · intro v' w' h1 h2 _ h4
    refine h v' w' ⟨xs ++ [.slice A n c], by rw [List.length_append]; exact h1, fun j hj => ?_⟩ (grown_trans (World.grownBy_alloc w _ _) h2)
    rw [List.length_append, List.length_singleton] at hj
    by_cases hjl : j < ls.length
    · obtain ⟨y, hy, hfy, hby⟩ := hf j hjl
      refine ⟨y, ?_, ?_, hby⟩
      · rw [List.getElem?_append_left (by omega)]; exact hy
      · rw [getD_append_l _ _ _ _ hjl]; exact hfy.grown h2 h4
    · obtain rfl : j = ls.length := by omega
      refine ⟨.slice A n c, by rw [List.getElem?_append_right (by omega), hxl]; simp, ?_, fun a' n' c' e => by injection e with e1; exact hA a' e1⟩
      rw [getD_append_r _ _ _ _ (Nat.le_refl _) (by simp), Nat.sub_self]
      exact (Fits.grown ⟨A, n, c, rfl, hl.on hb, fun hl a ha => hfar hl a ha⟩ h2 h4)
end Go.Proofs.Ytdamnamhbjfnlaa
