/-
  Rows of texts of a call's own.
-/
import Derived.Test.YtifokcpkamdkeaaDoorRows
import Derived.Test.YtifokcpkamdkeaaDoorTx
import Derived.Maps.AppendAt
namespace Go.Proofs.YtifokcpkamdkeaaDoor
open Go.RowKit

def valt (ws : List (List Nat)) : List Value := ws.map fun l => .string (txt l)
theorem valt_length (ws : List (List Nat)) : (valt ws).length = ws.length := by simp [valt]
theorem valt_append (a b : List (List Nat)) : valt (a ++ b) = valt a ++ valt b := by simp [valt]
theorem valt_at {ws : List (List Nat)} {j : Nat} (h : j < ws.length) : (valt ws)[j]? = some (.string (txt (ws.getD j []))) := by
  rw [getD_at h]; simp [valt, h]
theorem info_text : (Tryd.prog.info? 9).map (fun i => (i.zero, i.size, i.bytes)) = some (some (.string ⟨#[]⟩), 1, 16) := by kernel_rfl
/-- Texts in a row of the call's own. -/
def OwnT (w : World) (B : Nat) (v : Value) (ws : List (List Nat)) : Prop := w.ownsRow B 9 1 v ws.length (valt ws)
theorem OwnT.below {w w' : World} {B : Nat} {v : Value} {ws : List (List Nat)} (h : OwnT w B v ws) (hb : Below w.heap.size w w') : OwnT w' B v ws := own_below h hb
theorem OwnT.form {w : World} {B : Nat} {v : Value} {ws : List (List Nat)} (h : OwnT w B v ws) (h0 : 0 < ws.length) : ∃ g c, v = .slice (some ⟨g, 0, none⟩) ws.length c ∧ B ≤ g ∧ g < w.heap.size ∧ ws.length ≤ c ∧ c ≤ maxLen ∧ w.frozen? ⟨g, ws.length - 1, none⟩ = false ∧ ∀ j, j < ws.length → w.cell? ⟨g, j, none⟩ = some (.string (txt (ws.getD j []))) := by
  rcases h.2 with ⟨_, h2⟩ | ⟨g, cap, cur, rfl, hB, hh, hn, hm, _⟩
  · omega
  · refine ⟨g, cap, rfl, hB, (Array.getElem?_eq_some_iff.1 hh).1, hn, hm, frozen_of_row w g _ _ _ hh, fun j hj => ?_⟩
    rw [World.ownsRow.cellAt h j (by omega), valt_at hj]
/-- Text j is stored anew. -/
theorem OwnT.put {w : World} {B n c g : Nat} {ws : List (List Nat)} (h : OwnT w B (.slice (some ⟨g, 0, none⟩) n c) ws) (hn : n = ws.length) (j : Nat) (l : List Nat) : OwnT (w.setCell ⟨g, j, none⟩ (.string (txt l))) B (.slice (some ⟨g, 0, none⟩) n c) (ws.set j l) := by
  subst hn
  have h1 := (World.ownsRow.stored h j (.string (txt l))).1
  unfold OwnT
  rw [List.length_set]
  have e : valt (ws.set j l) = (valt ws).set j (.string (txt l)) := by unfold valt; rw [List.map_set]
  rw [e]
  exact h1
theorem wpList_append_text {w : World} {ops : Array Oper} {rest : List Oper} {op : Oper} {a : Act} {Q : Exit → Act → World → Prop} (hgd : op.guard = none) (s x : Operand)
    (ho : op.op = .call { callee := .builtin .append, args := #[s, x], argTypes := #[58, 58] })
    (base : Nat) (v : Value) (ws : List (List Nat)) (hs : a.eval s = v) (hown : OwnT w base v ws) (X : ByteArray) (l : List Nat) (hX : X = txt l) (hx : a.eval x = .slice (some ⟨w.heap.size, 0, none⟩) 1 1)
    (hl : ws.length ≤ 3000000) (hB : base ≤ w.heap.size)
    (h : ∀ v' w', OwnT w' base v' (ws ++ [l]) → w.grownBy w' v.ownBlock → wpList Tryd.prog ops Q rest (a.put op.dst v') w') : wpList Tryd.prog ops Q (op :: rest) a (w.alloc (.cells #[.string X] 9)) := by
  obtain ⟨i0, hi0, hz0, hz1, hz2⟩ := info_parts info_text
  subst hX
  refine wpList_append_own _ hgd s x 58 ho base 9 i0 (.string ⟨#[]⟩) 1 16 Tryd.underlying58 hi0 hz0 hz1 hz2 rfl (by decide) v ws.length (valt ws) hs (World.ownsRow.alloc hown _) ⟨w.heap.size, 0, none⟩ 1 1 [.string (txt l)] hx rfl ?_ ?_ (by unfold maxLen; omega) (by omega) (by simp; omega) ?_
  · intro j u hu
    rcases j with _ | j
    · simp at hu; subst hu
      have : ((⟨w.heap.size, 0, none⟩ : Addr).add 0) = ⟨w.heap.size, 0, none⟩ := by unfold Addr.add; split <;> simp_all
      rw [this, World.cell?_alloc_at _ _ _ _ rfl]; rfl
    · simp at hu
  · intro u hu; simp at hu; subst hu; rfl
  · intro v' w' h1 h2 _
    refine h v' w' ?_ (grown_trans (World.grownBy_alloc w _ _) h2)
    unfold OwnT
    rw [valt_append, List.length_append]; exact h1
end Go.Proofs.YtifokcpkamdkeaaDoor
