/-
  A disk in memory: bytes of its own whose block may be longer than the slice's room, what a call leaves of all other blocks. No condition.
-/
import Derived.Test.YtdamnamhbjfnlaaClone
import Derived.ArgAppend
import Derived.Lib.MinMax
namespace Go.Proofs.Ytdamnamhbjfnlaa
open Go.RowKit

/-! What a call leaves as it was: all blocks but those of F. -/
structure Kept (F : Nat → Prop) (w w' : World) : Prop where
  os : w'.os = w.os
  tape : w'.tape = w.tape
  output : w'.output = w.output
  size : w.heap.size ≤ w'.heap.size
  block : ∀ i, i < w.heap.size → ¬ F i → w'.heap[i]? = w.heap[i]?
theorem Kept.refl (F : Nat → Prop) (w : World) : Kept F w w := ⟨rfl, rfl, rfl, Nat.le_refl _, fun _ _ _ => rfl⟩
theorem Kept.trans {F G : Nat → Prop} {a b c : World} (h : Kept F a b) (k : Kept G b c) (hG : ∀ i, i < a.heap.size → G i → F i) : Kept F a c :=
  ⟨k.os.trans h.os, k.tape.trans h.tape, k.output.trans h.output, Nat.le_trans h.size k.size, fun i hi hF => (k.block i (Nat.lt_of_lt_of_le hi h.size) (fun hg => hF (hG i hi hg))).trans (h.block i hi hF)⟩
theorem Kept.more {F G : Nat → Prop} {a b : World} (h : Kept F a b) (hG : ∀ i, i < a.heap.size → F i → G i) : Kept G a b := ⟨h.os, h.tape, h.output, h.size, fun i hi hg => h.block i hi (fun hf => hg (hG i hi hf))⟩
theorem Kept.of_grown {F : Nat → Prop} {w w' : World} {row : Option Nat} (h : w.grownBy w' row) (hr : ∀ k, row = some k → F k) : Kept F w w' :=
  ⟨h.os, h.tape, h.output, h.size, fun i hi hF => h.block i hi (fun e => hF (hr i e.symm))⟩
theorem Kept.of_below {F : Nat → Prop} {w w' : World} (h : Below w.heap.size w w') : Kept F w w' := ⟨h.os, h.tape, h.output, h.size, fun i hi _ => h.block i hi⟩
theorem Kept.below {F : Nat → Prop} {w w' : World} {B : Nat} (h : Kept F w w') (hB : B ≤ w.heap.size) (hF : ∀ i, F i → B ≤ i) : Below B w w' :=
  ⟨h.os, h.tape, h.output, h.size, fun i hi => h.block i (by omega) (fun hf => by have := hF i hf; omega)⟩

/-! Bytes of a call's own; the block may be longer than the slice's room. -/
def OwnC (w : World) (v : Value) (l : List Nat) : Prop :=
  (∀ x ∈ l, x < 256) ∧ ((v = .slice none 0 0 ∧ l = []) ∨
   ∃ g cap cur, v = .slice (some ⟨g, 0, none⟩) l.length cap ∧ w.heap[g]? = some (.cells cur 5 (0, 0)) ∧ l.length ≤ cap ∧ cap ≤ maxLen ∧ cap ≤ cur.size ∧ cur.toList.take l.length = vals l)
theorem OwnC.none_ (w : World) : OwnC w (.slice none 0 0) [] := ⟨by simp, .inl ⟨rfl, rfl⟩⟩
theorem OwnC.of_own {w : World} {B : Nat} {v : Value} {l : List Nat} (h : OwnB w B v l) : OwnC w v l := by
  refine ⟨h.2, ?_⟩
  rcases h.1.2 with ⟨h1, h2⟩ | ⟨g, cap, cur, h1, _, h2, h3, h4, h5, h6⟩
  · exact .inl ⟨h1, List.eq_nil_of_length_eq_zero h2⟩
  · rw [Nat.mul_one] at h5 h6
    exact .inr ⟨g, cap, cur, h1, h2, h3, h4, by omega, h6⟩
theorem OwnC.lt {w : World} {v : Value} {l : List Nat} (h : OwnC w v l) : ∀ k, v.ownBlock = some k → k < w.heap.size := by
  intro k hk
  rcases h.2 with ⟨rfl, _⟩ | ⟨g, cap, cur, rfl, h2, _⟩
  · cases hk
  · injection hk with hk; subst hk; exact (Array.getElem?_eq_some_iff.1 h2).1
theorem OwnC.keep {w w' : World} {v : Value} {l : List Nat} (h : OwnC w v l) (hk : ∀ k, v.ownBlock = some k → w'.heap[k]? = w.heap[k]?) : OwnC w' v l := by
  refine ⟨h.1, ?_⟩
  rcases h.2 with h2 | ⟨g, cap, cur, rfl, h2, h3⟩
  · exact .inl h2
  · exact .inr ⟨g, cap, cur, rfl, (hk g rfl).trans h2, h3⟩
theorem OwnC.sl {w : World} {v : Value} {l : List Nat} (h : OwnC w v l) : ∃ A c, v = .slice A l.length c ∧ Sl w A l.length c l := by
  rcases h.2 with ⟨rfl, rfl⟩ | ⟨g, cap, cur, rfl, h2, h3, h4, h5, h6⟩
  · exact ⟨none, 0, rfl, Sl.none_ w⟩
  · refine ⟨_, cap, rfl, ⟨⟨h.1, fun h0 => ⟨g, 0, rfl, (Array.getElem?_eq_some_iff.1 h2).1, fun j hj => ?_⟩⟩, rfl, h3, h4, fun h => by cases h⟩⟩
    rw [cell_of_row w g (0 + j) _ _ _ h2, Nat.zero_add, ← vals_at hj, ← h6, List.getElem?_take, if_pos hj]
    simp
/-- Cut with three indices. -/
theorem OwnC.cut {w : World} {A : Option Addr} {n c : Nat} {l : List Nat} (h : OwnC w (.slice A n c) l) (k : Nat) (hk : k ≤ n) : OwnC w (.slice A k k) (l.take k) := by
  refine ⟨fun x hx => h.1 x (List.mem_of_mem_take hx), ?_⟩
  rcases h.2 with ⟨h1, rfl⟩ | ⟨g, cap, cur, h1, h2, h3, h4, h5, h6⟩
  · injection h1 with h1 h2 h3
    obtain rfl : k = 0 := by omega
    exact .inl ⟨by rw [h1], rfl⟩
  · injection h1 with h1 h7 h8
    subst h1 h7 h8
    have e : (l.take k).length = k := by rw [List.length_take]; omega
    refine .inr ⟨g, k, cur, by rw [e], h2, by omega, by omega, by omega, ?_⟩
    rw [e]
    have := congrArg (List.take k) h6
    rw [List.take_take, Nat.min_eq_left hk] at this
    rw [this]; simp [vals, List.map_take]
/-- append of bytes that are read. -/
theorem wpList_append_cut {w : World} {ops : Array Oper} {rest : List Oper} {op : Oper} {a : Act} {Q : Exit → Act → World → Prop} (hgd : op.guard = none) (s x : Operand)
    (ho : op.op = .call { callee := .builtin .append, args := #[s, x], argTypes := #[33, 33] })
    (v : Value) (l1 : List Nat) (hs : a.eval s = v) (hown : OwnC w v l1) (m c : Nat) (A : Option Addr) (l : List Nat) (hx : a.eval x = .slice A m c) (hr : Sl w A m c l)
    (hlen : l1.length + l.length ≤ 140737488355328)
    (h : ∀ v' w', OwnC w' v' (l1 ++ l) → (v'.ownBlock = v.ownBlock ∨ ∃ k, v'.ownBlock = some k ∧ w.heap.size ≤ k) → w.grownBy w' v.ownBlock → wpList Try.prog ops Q rest (a.put op.dst v') w') : wpList Try.prog ops Q (op :: rest) a w := by
  obtain ⟨i0, hi0, hz0, hz1, hz2⟩ := info_parts byteInfo
  have hby : ∀ y ∈ l1 ++ l, y < 256 := by
    intro y hy
    rcases List.mem_append.1 hy with hy | hy
    · exact hown.1 y hy
    · exact hr.rd.1 y hy
  rcases hown.2 with ⟨rfl, rfl⟩ | ⟨g, cap, cur, rfl, h2, h3, h4, h5, h6⟩
  · refine wpList_append_own_rd hgd s x ho w.heap.size _ [] hs (OwnB.none_ _ _) m c A l hx hr hlen (Nat.le_refl _) ?_
    intro v' w' h1 h2
    refine h v' w' (OwnC.of_own h1) ?_ (grown_below _ h2)
    rcases h1.1.2 with ⟨rfl, _⟩ | ⟨g, cap, cur, rfl, hg, _⟩
    · exact .inl rfl
    · exact .inr ⟨g, rfl, hg⟩
  · obtain rfl := hr.len
    rcases A with _ | ad
    · obtain rfl := hr.nil rfl
      have hl : l = [] := List.eq_nil_of_length_eq_zero (by have := hr.cap; omega)
      subst hl
      refine wpList_plain hgd fun K hK => ?_
      have hrun : (Builtin.append_ #[33, 33] op.type #[.slice (some ⟨g, 0, none⟩) l1.length cap, .slice none 0 0]).run Try.prog w = .ok (.slice (some ⟨g, 0, none⟩) l1.length cap) w := by
        simp [Builtin.append_, run_underlying Try.underlying33, sizeOf, typeInfo, hi0, Builtin.lenOf, Builtin.firstCells, h3, storeCells]
      unfold Oper.wp
      simp only [List.length_nil] at hx
      simp [execOp, ho, resolve, invoke, builtin, hs, hx, hrun, Result.andThen]
      exact hK _ _ (h _ w (by rw [List.append_nil]; exact hown) (.inl rfl) (World.grownBy.refl _ _))
    · have hcells : ∀ j u, (vals l)[j]? = some u → w.cell? (ad.add j) = some u := by
        rcases l with _ | ⟨y, l⟩
        · intro j u hu; simp [vals] at hu
        · obtain ⟨b, o, h0, _⟩ := hr.rd.2 (by simp)
          injection h0 with h0
          subst h0
          exact hr.rd.cells
      by_cases hroom : l1.length + l.length ≤ cap
      · refine wpList_plain hgd fun K hK => ?_
        have hrun := run_append_room (P := Try.prog) w 33 op.type 5 i0 Try.underlying33 hi0 g l1.length cap cur h2 ad l.length c (vals l) (by rw [vals_length, hz1, Nat.mul_one]) hcells (vals_one l) hroom (by rw [hz1, vals_length]; omega)
        unfold Oper.wp
        simp [execOp, ho, resolve, invoke, builtin, hs, hx, hrun, Result.andThen]
        refine hK _ _ (h _ _ ⟨hby, .inr ⟨g, cap, _, by rw [List.length_append], setRow_heap w g cur _ _ _ h2, by rw [List.length_append]; omega, h4, ?_, ?_⟩⟩ (.inl rfl) ⟨rfl, rfl, rfl, by simp [World.setRow], fun k _ hk => setRow_other w g k _ (fun e => hk (by simp [e, Value.ownBlock]))⟩)
        · simp only [List.size_toArray, List.length_append, List.length_take, List.length_drop, Array.length_toList, hz1, Nat.mul_one, vals_length]
          omega
        · rw [hz1, Nat.mul_one, h6, List.length_append, show l1.length + l.length = (vals l1 ++ vals l).length from by rw [List.length_append, vals_length, vals_length], vals_append]
          show List.take _ (vals l1 ++ (vals l ++ _)) = _
          rw [← List.append_assoc]
          exact List.take_left
      · refine wpList_plain hgd fun K hK => ?_
        obtain ⟨v', w', hrun, r1, r2⟩ := run_append_arg_grows (P := Try.prog) w 33 op.type 5 i0 _ 1 1 Try.underlying33 hi0 hz0 hz1 hz2 rfl (by omega) ⟨g, 0, none⟩ l1.length cap (vals l1) (by rw [vals_length]; omega)
          (fun j u hj => by
            have hjl : j < l1.length := by
              rcases Nat.lt_or_ge j l1.length with h | h
              · exact h
              · rw [List.getElem?_eq_none (by rw [vals_length]; omega)] at hj; cases hj
            rw [Addr.add_lit, cell_of_row w g (0 + j) _ _ _ h2, Nat.zero_add, ← hj, ← h6, List.getElem?_take, if_pos hjl]; simp)
          ad l.length c (vals l) (by rw [vals_length]; omega) hcells (by omega) (by unfold maxLen; omega) (by omega)
        unfold Oper.wp
        simp [execOp, ho, resolve, invoke, builtin, hs, hx, hrun, Result.andThen]
        have r3 : OwnB w' w.heap.size v' (l1 ++ l) := ⟨by rw [vals_append, List.length_append]; exact r1, hby⟩
        refine hK _ _ (h v' w' (OwnC.of_own r3) ?_ ⟨r2.os, r2.tape, r2.output, r2.size, fun k hk _ => r2.block k hk (by simp)⟩)
        rcases r1.2 with ⟨rfl, h0⟩ | ⟨g', cap', cur', rfl, hg, _⟩
        · omega
        · exact .inr ⟨g', rfl, hg⟩
end Go.Proofs.Ytdamnamhbjfnlaa
