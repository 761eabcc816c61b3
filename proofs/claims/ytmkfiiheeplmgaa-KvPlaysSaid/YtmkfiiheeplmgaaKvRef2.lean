/-
  The document's package of layer 8: appends; Since, drop, put. No condition.
-/
import Derived.Test.YtmkfiiheeplmgaaKvRef1
namespace Go.Proofs.Ytmkfiiheeplmgaa
open Go.RowKit Go.Deep

theorem wpList_append_en {w : World} {ops : Array Oper} {rest : List Oper} {op : Oper} {a : Act} {Q : Exit → Act → World → Prop} (hgd : op.guard = none) (s x : Operand)
    (ho : op.op = .call { callee := .builtin .append, args := #[s, x], argTypes := #[26, 26] })
    (base : Nat) (v : Value) (ts : List Kv.En) (hs : a.eval s = v) (hown : OwnR 3 EEn 65 w w base v ts) (t : Kv.En) (hx : a.eval x = .slice (some ⟨w.heap.size, 0, none⟩) 1 1)
    (hlen : ts.length ≤ 1000000) (hB : base ≤ w.heap.size)
    (h : ∀ v' w', OwnR 3 EEn 65 w' w' base v' (ts ++ [t]) → Below base w w' → w.grownBy w' v.ownBlock → wpList Try.prog ops Q rest (a.put op.dst v') w') : wpList Try.prog ops Q (op :: rest) a (w.alloc (.cells #[.string t.key, .string t.val, .int .i64 t.rev] 65)) := by
  obtain ⟨i0, hi0, hz0, hz1, hz2⟩ := info_parts en_info
  exact wpList_append_elem (K := 3) (E := EEn) (w0 := w) Try.underlying26 hi0 hz0 hz1 hz2 rfl (by decide) hgd s x ho base v ts hs hown [.string t.key, .string t.val, .int .i64 t.rev] t rfl (by intro u hu; simp at hu; rcases hu with rfl | rfl | rfl <;> rfl) rfl hx (by unfold maxLen; omega) (by omega) hB fun v' w' h1 h2 h3 => h v' w' h1 h2 h3
theorem wpList_append_tx {w : World} {ops : Array Oper} {rest : List Oper} {op : Oper} {a : Act} {Q : Exit → Act → World → Prop} (hgd : op.guard = none) (s x : Operand)
    (ho : op.op = .call { callee := .builtin .append, args := #[s, x], argTypes := #[45, 45] })
    (base : Nat) (v : Value) (ts : List ByteArray) (hs : a.eval s = v) (hown : OwnR 1 ETx 9 w w base v ts) (t : ByteArray) (hx : a.eval x = .slice (some ⟨w.heap.size, 0, none⟩) 1 1)
    (hlen : ts.length ≤ 1000000) (hB : base ≤ w.heap.size)
    (h : ∀ v' w', OwnR 1 ETx 9 w' w' base v' (ts ++ [t]) → Below base w w' → w.grownBy w' v.ownBlock → wpList Try.prog ops Q rest (a.put op.dst v') w') : wpList Try.prog ops Q (op :: rest) a (w.alloc (.cells #[.string t] 9)) := by
  obtain ⟨i0, hi0, hz0, hz1, hz2⟩ := info_parts tx_info
  exact wpList_append_elem (K := 1) (E := ETx) (w0 := w) Try.underlying45 hi0 hz0 hz1 hz2 rfl (by decide) hgd s x ho base v ts hs hown [.string t] t rfl (by intro u hu; simp at hu; rcases hu with rfl <;> rfl) rfl hx (by unfold maxLen; omega) (by omega) hB fun v' w' h1 h2 h3 => h v' w' h1 h2 h3
theorem wpList_append_po {w : World} {ops : Array Oper} {rest : List Oper} {op : Oper} {a : Act} {Q : Exit → Act → World → Prop} (hgd : op.guard = none) (s x : Operand)
    (ho : op.op = .call { callee := .builtin .append, args := #[s, x], argTypes := #[29, 29] })
    (base : Nat) (v : Value) (ts : List Kv.Po) (hs : a.eval s = v) (hown : OwnR 4 EPo 42 w w base v ts) (t : Kv.Po) (hE : EPo w [.string t.key, .string t.val, .int .i64 t.rev, .bool t.drop] t) (hx : a.eval x = .slice (some ⟨w.heap.size, 0, none⟩) 1 1)
    (hlen : ts.length ≤ 1000000) (hB : base ≤ w.heap.size)
    (h : ∀ v' w', OwnR 4 EPo 42 w' w' base v' (ts ++ [t]) → Below base w w' → w.grownBy w' v.ownBlock → wpList Try.prog ops Q rest (a.put op.dst v') w') : wpList Try.prog ops Q (op :: rest) a (w.alloc (.cells #[.string t.key, .string t.val, .int .i64 t.rev, .bool t.drop] 42)) := by
  obtain ⟨i0, hi0, hz0, hz1, hz2⟩ := info_parts po_info
  exact wpList_append_elem (K := 4) (E := EPo) (w0 := w) Try.underlying29 hi0 hz0 hz1 hz2 rfl (by decide) hgd s x ho base v ts hs hown [.string t.key, .string t.val, .int .i64 t.rev, .bool t.drop] t rfl (by intro u hu; simp at hu; rcases hu with rfl | rfl | rfl | rfl <;> rfl) hE hx (by unfold maxLen; omega) (by omega) hB fun v' w' h1 h2 h3 => h v' w' h1 h2 h3
theorem wpList_append_kvo {w : World} {ops : Array Oper} {rest : List Oper} {op : Oper} {a : Act} {Q : Exit → Act → World → Prop} (hgd : op.guard = none) (s x : Operand)
    (ho : op.op = .call { callee := .builtin .append, args := #[s, x], argTypes := #[34, 34] })
    (base : Nat) (v : Value) (ts : List Kv.Po) (hs : a.eval s = v) (hown : OwnR 4 EPo 52 w w base v ts) (t : Kv.Po) (hE : EPo w [.string t.key, .string t.val, .int .i64 t.rev, .bool t.drop] t) (hx : a.eval x = .slice (some ⟨w.heap.size, 0, none⟩) 1 1)
    (hlen : ts.length ≤ 1000000) (hB : base ≤ w.heap.size)
    (h : ∀ v' w', OwnR 4 EPo 52 w' w' base v' (ts ++ [t]) → Below base w w' → w.grownBy w' v.ownBlock → wpList Try.prog ops Q rest (a.put op.dst v') w') : wpList Try.prog ops Q (op :: rest) a (w.alloc (.cells #[.string t.key, .string t.val, .int .i64 t.rev, .bool t.drop] 52)) := by
  obtain ⟨i0, hi0, hz0, hz1, hz2⟩ := info_parts kvo_info
  exact wpList_append_elem (K := 4) (E := EPo) (w0 := w) Try.underlying34 hi0 hz0 hz1 hz2 rfl (by decide) hgd s x ho base v ts hs hown [.string t.key, .string t.val, .int .i64 t.rev, .bool t.drop] t rfl (by intro u hu; simp at hu; rcases hu with rfl | rfl | rfl | rfl <;> rfl) hE hx (by unfold maxLen; omega) (by omega) hB fun v' w' h1 h2 h3 => h v' w' h1 h2 h3
/-- What of an entry of a row is read. -/
theorem SlR.en {w : World} {b o n c : Nat} {l : List Kv.En} (h : SlE w (some ⟨b, o, none⟩) n c l) {j : Nat} {x : Kv.En} (hx : l[j]? = some x) {w' : World} (hb : Below w.heap.size w w') :
    w'.cell? ⟨b, o + j * 3, none⟩ = some (.string x.key) ∧ w'.cell? ⟨b, o + j * 3 + 1, none⟩ = some (.string x.val) ∧ w'.cell? ⟨b, o + j * 3 + 2, none⟩ = some (.int .i64 x.rev) := by
  obtain ⟨hj, rfl⟩ := List.getElem?_eq_some_iff.1 hx
  obtain ⟨hl, cs, _, hc, he⟩ := h.cell hj
  unfold EEn at he
  rw [he] at hc
  exact ⟨(hb.cell (p := ⟨b, o + j * 3, none⟩) hl).trans (hc 0 (by omega)), (hb.cell (p := ⟨b, o + j * 3 + 1, none⟩) hl).trans (hc 1 (by omega)), (hb.cell (p := ⟨b, o + j * 3 + 2, none⟩) hl).trans (hc 2 (by omega))⟩
/-- A list of entries and a list of texts that a call makes. -/
theorem rsince_any (s : Kv.St) (n c : Nat) (A : Option Addr) (r : Int) (w : World) (h : SlE w A n c s.l) (hz : s.l.length ≤ 1000) :
    Calls Try.prog 20 #[.agg #[.slice A n c, .int .i64 s.rev], .int .i64 r] w (KTx (Kv.since s r) w) := by
  have hn := h.len
  have hmx := h.max
  have hcp := h.cap
  unfold maxLen at hmx
  have B1 := Lib.hid ((Below.refl w.heap.size w).alloc (Nat.le_refl _) (.cells #[.slice A n c, .int .i64 s.rev] 28))
  have R1 := Lib.hid (RAt.new w (.slice A n c) s.rev)
  have HA := Lib.hid (h.on EEn.on B1.out)
  have HN := Lib.hid hn
  have HZ := Lib.hid hz
  unfold Kv.since
  obtain ⟨l, rr⟩ := s
  simp only at *
  clear h hn hz
  go_enter Try.func20, Try.ntmps20
  go_wp2_with fail
  obtain ⟨g, hg⟩ : ∃ g, g = w.heap.size := ⟨_, rfl⟩
  rw [← hg] at R1 ⊢
  generalize w.alloc (.cells #[.slice A n c, .int .i64 rr] 28) = w1 at *
  have HG := Lib.hid hg
  clear hg
  go_loopw [5, 6] (fun v i wr => ∃ j : Nat, j ≤ n ∧ i = .int .i64 j ∧ OwnTx wr w1.heap.size v (((l.take j).filter fun e => decide (r < e.rev)).map (·.key)) ∧ Below w1.heap.size w1 wr) (fun _ i _ => n - (intOf i).toNat)
  case atStart => exact ⟨0, by omega, rfl, OwnR.none_ _ _ _ _, Below.refl _ _⟩
  case round =>
    obtain ⟨j, hj, rfl, ho, hbr⟩ := hrel
    have O := Lib.hid ho
    have B := Lib.hid hbr
    obtain ⟨q0, _, hgl⟩ := (R1.out.on hbr).cells
    clear ho hbr
    by_cases hlt : j < n
    · obtain ⟨b1, o1, rfl⟩ := HA.out.addr (by have := HN.out; omega)
      have EA : Hid (l[j]? = some (l[j]'(by have := HN.out; omega))) := List.getElem?_eq_getElem _
      generalize l[j]'(by have := HN.out; omega) = x at *
      obtain ⟨p0, p1, p2⟩ := HA.out.en EA.out B.out
      have ST : Hid ((((l.take (j + 1)).filter fun e => decide (r < e.rev)).map (·.key)) = (((l.take j).filter fun e => decide (r < e.rev)).map (·.key)) ++ (if r < x.rev then [x.key] else [])) := by
        show _ = _
        rw [List.take_add_one, EA.out, List.filter_append, List.map_append]
        congr 1
        by_cases h : r < x.rev <;> simp [h]
      have LN : Hid (((((l.take j).filter fun e => decide (r < e.rev)).map (·.key))).length ≤ 1000000) := by
        show _ ≤ _
        rw [List.length_map]
        have h1 := List.length_filter_le (fun e : Kv.En => decide (r < e.rev)) (l.take j)
        rw [List.length_take] at h1
        have := HZ.out; omega
      by_cases hr : r < x.rev
      · rw [if_pos hr] at ST
        go_wp2_with (at_builtin; refine wpList_append_tx rfl (.tmp 22) (.tmp 29) rfl w1.heap.size _ _ rfl O.out x.key rfl LN.out B.out.size ?_; intro v3 w3 ho3 hb3 hg3; have O3 := Lib.hid ho3; have B3 := Lib.hid (B.out.trans (hb3.mono (Nat.le_refl _))); clear ho3 hb3 hg3)
        exact ⟨⟨j + 1, by omega, by go_num, by rw [ST.out]; exact O3.out, B3.out⟩, by simp [intOf]; omega⟩
      · rw [if_neg hr, List.append_nil] at ST
        go_wp2_with fail
        exact ⟨⟨j + 1, by omega, by go_num, by rw [ST.out]; exact O.out, B.out⟩, by simp [intOf]; omega⟩
    · have E : Hid (l.take j = l) := List.take_of_length_le (by have := HN.out; omega)
      rw [E.out] at O
      go_wp2_with fail
      go_ret
      exact ⟨_, rfl, O.out.lower (by have := B1.out.size; omega), B1.out.trans (B.out.mono B1.out.size)⟩
end Go.Proofs.Ytmkfiiheeplmgaa
