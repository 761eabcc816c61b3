/-
  The helpers of the statements of layer 9: early, kind. No condition.
-/
import Derived.Test.YtemnioijgkahcaaLsRows
import Derived.Deep.Cut
import Derived.Deep.DeepCutAuto
import Derived.Lib.MinMax
namespace Go.Proofs.Ytemnioijgkahcaa
open Go.RowKit Go.Deep

def lcut (p : Lp) : Lp := ⟨p.kind, p.who, p.ep, p.now, p.ttl, p.name.extract 0 (min p.name.size 20)⟩
def learly (l : List Lp) : List Lp := (l.take 80).map lcut
theorem learly_len (l : List Lp) : (learly l).length ≤ 80 := by unfold learly; rw [List.length_map, List.length_take]; omega
theorem lcut_snoc {l : List Lp} {j : Nat} {o : Lp} (h : l[j]? = some o) : (l.take (j + 1)).map lcut = (l.take j).map lcut ++ [lcut o] := by
  rw [List.take_add_one, h]; simp
structure LFr (w : World) (g : Nat) (o : Lp) : Prop where
  row : w.heap[g]? = some (.cells #[.int .i64 o.kind, .int .i64 o.who, .int .i64 o.ep, .int .i64 o.now, .int .i64 o.ttl, .string o.name] 28 (0, 0))
theorem LFr.new (w : World) (o : Lp) : LFr (w.alloc (.cells #[.int .i64 o.kind, .int .i64 o.who, .int .i64 o.ep, .int .i64 o.now, .int .i64 o.ttl, .string o.name] 28)) w.heap.size o := ⟨heap_alloc_new w _⟩
structure LFc (w : World) (g : Nat) (o : Lp) : Prop where
  c0 : w.cell? ⟨g, 0, none⟩ = some (.int .i64 o.kind)
  c1 : w.cell? ⟨g, 1, none⟩ = some (.int .i64 o.who)
  c2 : w.cell? ⟨g, 2, none⟩ = some (.int .i64 o.ep)
  c3 : w.cell? ⟨g, 3, none⟩ = some (.int .i64 o.now)
  c4 : w.cell? ⟨g, 4, none⟩ = some (.int .i64 o.ttl)
  c5 : w.cell? ⟨g, 5, none⟩ = some (.string o.name)
  f5 : w.frozen? ⟨g, 5, none⟩ = false
  lt : g < w.heap.size
theorem LFr.cells {w : World} {g : Nat} {o : Lp} (h : LFr w g o) : LFc w g o :=
  ⟨by rw [cell_of_row w g 0 _ _ _ h.row]; rfl, by rw [cell_of_row w g 1 _ _ _ h.row]; rfl, by rw [cell_of_row w g 2 _ _ _ h.row]; rfl, by rw [cell_of_row w g 3 _ _ _ h.row]; rfl, by rw [cell_of_row w g 4 _ _ _ h.row]; rfl, by rw [cell_of_row w g 5 _ _ _ h.row]; rfl, frozen_of_row _ _ _ _ _ h.row, (Array.getElem?_eq_some_iff.1 h.row).1⟩
theorem LFr.on {w w' : World} {g : Nat} {o : Lp} (h : LFr w g o) (hb : Below w.heap.size w w') : LFr w' g o := ⟨(hb.block g h.cells.lt).trans h.row⟩
theorem LFr.cut {w : World} {g : Nat} {o : Lp} (h : LFr w g o) (k : ByteArray) : LFr (w.setCell ⟨g, 5, none⟩ (.string k)) g ⟨o.kind, o.who, o.ep, o.now, o.ttl, k⟩ := ⟨heap_setCell_same w g 5 _ _ (.string k) h.row⟩
theorem wpList_append_lp {w : World} {ops : Array Oper} {rest : List Oper} {op : Oper} {a : Act} {Q : Exit → Act → World → Prop} (hgd : op.guard = none) (s x : Operand)
    (ho : op.op = .call { callee := .builtin .append, args := #[s, x], argTypes := #[22, 22] })
    (base : Nat) (v : Value) (ts : List Lp) (hs : a.eval s = v) (hown : OwnLp w base v ts) (t : Lp) (hE : LpOk t) (hx : a.eval x = .slice (some ⟨w.heap.size, 0, none⟩) 1 1)
    (hlen : ts.length ≤ 1000000) (hB : base ≤ w.heap.size)
    (h : ∀ v' w', OwnLp w' base v' (ts ++ [t]) → Below base w w' → w.grownBy w' v.ownBlock → wpList Try.prog ops Q rest (a.put op.dst v') w') : wpList Try.prog ops Q (op :: rest) a (w.alloc (.cells #[.int .i64 t.kind, .int .i64 t.who, .int .i64 t.ep, .int .i64 t.now, .int .i64 t.ttl, .string t.name] 28)) := by
  obtain ⟨i0, hi0, hz0, hz1, hz2⟩ := info_parts lp_info
  exact wpList_append_elem (K := 6) (E := ELp) (w0 := w) Try.underlying22 hi0 hz0 hz1 hz2 rfl (by decide) hgd s x ho base v ts hs hown (lcells t) t rfl (by intro u hu; simp [lcells] at hu; rcases hu with rfl | rfl | rfl | rfl | rfl | rfl <;> rfl) ⟨rfl, hE⟩ hx (by unfold maxLen; omega) (by omega) hB fun v' w' h1 h2 h3 => h v' w' h1 h2 h3
def LOps (l : List Lp) (w : World) (e : Ending) (w' : World) : Prop := ∃ v, e = .returned v ∧ OwnLp w' w.heap.size v l ∧ Below w.heap.size w w'
set_option maxHeartbeats 3200000 in
theorem learly_any (l : List Lp) (n c : Nat) (A : Option Addr) (w0 w : World) (h : SlL w0 A n c l) (hb0 : Below w0.heap.size w0 w) :
    Calls Try.prog 10 #[.slice A n c] w (LOps (learly l) w) := by
  have hn := h.len
  have hmx := h.max
  have hcp := h.cap
  unfold maxLen at hmx
  have HA := Lib.hid h
  have HN := Lib.hid hn
  have B0 := Lib.hid hb0
  clear h hn hb0
  go_enter Try.func10, Try.ntmps10
  go_wp2_with fail
  go_loopw [3, 4] (fun v i wr => ∃ j : Nat, j ≤ n ∧ j ≤ 80 ∧ i = .int .i64 j ∧ OwnLp wr w.heap.size v ((l.take j).map lcut) ∧ Below w.heap.size w wr) (fun _ i _ => 80 - (intOf i).toNat)
  case atStart => exact ⟨0, by omega, by omega, rfl, OwnR.none_ _ _ _ _, Below.refl _ _⟩
  case round =>
    obtain ⟨j, hj, hj7, rfl, ho, hbr⟩ := hrel
    have O := Lib.hid ho
    have B := Lib.hid hbr
    have BB := Lib.hid (B0.out.trans (hbr.mono B0.out.size))
    clear ho hbr
    by_cases hlt : j < n ∧ j < 80
    · obtain ⟨h1, h2⟩ := hlt
      obtain ⟨b1, o1, rfl⟩ := HA.out.addrL (by have := HN.out; omega)
      have EO : Hid (l[j]? = some (l[j]'(by have := HN.out; omega))) := List.getElem?_eq_getElem _
      generalize l[j]'(by have := HN.out; omega) = o at *
      obtain ⟨p0, p1, p2, p3, p4, p5⟩ := HA.out.lp EO.out BB.out
      have OK := HA.out.lpOk (List.mem_of_getElem? EO.out)
      have ST := Lib.hid (lcut_snoc EO.out)
      have hk1 : (o.name.size : Int) ≤ 9223372036854775807 := by have := OK.s; unfold maxLen at this; omega
      have OI := Lib.hid OK
      clear OK
      have h2' : (j : Int) < 80 := by omega
      have hm1 : min (o.name.size : Int) 20 = ((min o.name.size 20 : Nat) : Int) := by omega
      have hl1 : ((min o.name.size 20 : Nat) : Int) ≤ (o.name.size : Int) := by omega
      have E1 : Hid (lcut o = ⟨o.kind, o.who, o.ep, o.now, o.ttl, o.name.extract 0 (min o.name.size 20)⟩) := rfl
      have S1 : Hid ((o.name.extract 0 (min o.name.size 20)).size ≤ 20) := by show _ ≤ _; rw [ByteArray.size_extract]; omega
      generalize min o.name.size 20 = n1 at *
      have P0 := Lib.hid (LFr.new wr o)
      have BN := Lib.hid ((Below.refl wr.heap.size wr).alloc (Nat.le_refl _) (.cells #[.int .i64 o.kind, .int .i64 o.who, .int .i64 o.ep, .int .i64 o.now, .int .i64 o.ttl, .string o.name] 28))
      go_upto_region 6 with fail
      obtain ⟨g, hg⟩ : ∃ g, g = wr.heap.size := ⟨_, rfl⟩
      rw [← hg] at P0 ⊢
      have ON := Lib.hid (OwnLp.any (w1 := wr.alloc (.cells #[.int .i64 o.kind, .int .i64 o.who, .int .i64 o.ep, .int .i64 o.now, .int .i64 o.ttl, .string o.name] 28)) (O.out.below BN.out))
      have BW := Lib.hid (B.out.trans (BN.out.mono B.out.size))
      have OG : Hid (∀ k, u3.ownBlock = some k → k ≠ g) := fun k hk => by have := (O.out.lt k hk).2; omega
      have WG : Hid (w.heap.size ≤ g) := by have := B.out.size; show _ ≤ _; omega
      clear O BN B
      generalize wr.alloc (.cells #[.int .i64 o.kind, .int .i64 o.who, .int .i64 o.ep, .int .i64 o.now, .int .i64 o.ttl, .string o.name] 28) = ws at *
      have HG := Lib.hid hg
      clear hg p0 p1 p2 p3 p4 p5
      obtain ⟨c0, c1, c2, c3, c4, c5, f5, hgl⟩ := P0.out.cells
      go_upto_region 7 with fail
      have P1 := Lib.hid (P0.out.cut (o.name.extract 0 n1))
      have B2 : Hid (Below w.heap.size w (ws.setCell ⟨g, 5, none⟩ (.string (o.name.extract 0 n1)))) := BW.out.setCell (p := ⟨g, 5, none⟩) WG.out _
      have O2 : Hid (OwnLp (ws.setCell ⟨g, 5, none⟩ (.string (o.name.extract 0 n1))) w.heap.size u3 ((l.take j).map lcut)) := OwnLp.any (ON.out.keep fun i hi => heap_setCell_other _ _ _ _ (by simpa using OG.out i hi))
      clear ON BW P0 c0 c1 c2 c3 c4 c5 f5 hgl hm1 hl1
      generalize ws.setCell ⟨g, 5, none⟩ (.string (o.name.extract 0 n1)) = wt at *
      rw [← E1.out] at P1
      have EP : Hid (LpOk (lcut o)) := ⟨OI.out.k, OI.out.w, OI.out.e, OI.out.n, OI.out.t, by have := S1.out; rw [E1.out]; unfold maxLen; show (o.name.extract 0 n1).size ≤ _; omega⟩
      have LN : Hid (((l.take j).map lcut).length ≤ 1000000) := by show _ ≤ _; rw [List.length_map, List.length_take]; omega
      obtain ⟨c0, c1, c2, c3, c4, c5, f5, hgl⟩ := P1.out.cells
      generalize lcut o = q at *
      go_wp2_with (at_builtin; refine wpList_append_lp rfl (.tmp 28) (.tmp 30) rfl w.heap.size _ _ rfl O2.out q EP.out rfl LN.out B2.out.size ?_; intro v3 w3 ho3 hb3 hg3; have O3 := Lib.hid ho3; have B3 := Lib.hid (B2.out.trans (hb3.mono (Nat.le_refl _))); clear ho3 hb3 hg3)
      exact ⟨⟨j + 1, by omega, by omega, by go_num, by rw [ST.out]; exact O3.out, B3.out⟩, by simp [intOf]; omega⟩
    · have E : Hid ((l.take j).map lcut = learly l) := by
        have := HN.out
        show _ = _
        unfold learly
        refine congrArg (List.map lcut) ?_
        rcases Nat.lt_or_ge j 80 with h | h
        · rw [List.take_of_length_le (by omega), List.take_of_length_le (by omega)]
        · rw [show j = 80 by omega]
      rw [E.out] at O
      by_cases h1 : j < n
      · have h2 : ¬ (j : Int) < 80 := by omega
        go_wp2_with fail
        go_ret
        exact ⟨_, rfl, O.out, B.out⟩
      · go_wp2_with fail
        go_ret
        exact ⟨_, rfl, O.out, B.out⟩
/-- A step's kind. -/
def lkN (k : Int) : Nat := ((IntKind.u64.wrap k).tmod 4).toNat
theorem lkN_eq (k : Int) : (lkN k : Int) = (IntKind.u64.wrap k).tmod 4 ∧ lkN k < 4 := by
  unfold lkN
  rw [IntKind.wrap_u64]
  have h0 : 0 ≤ k % 18446744073709551616 := Int.emod_nonneg _ (by omega)
  generalize k % 18446744073709551616 = x at h0
  rw [Int.tmod_eq_emod_of_nonneg h0]
  omega
theorem lkind_any (p : Lp) (w : World) :
    Calls Try.prog 11 #[.agg #[.int .i64 p.kind, .int .i64 p.who, .int .i64 p.ep, .int .i64 p.now, .int .i64 p.ttl, .string p.name]] w fun e w' => e = .returned (.int .i64 (lkN p.kind : Nat)) ∧ Below w.heap.size w w' := by
  obtain ⟨k, a, b, c, d, s⟩ := p
  have HK := lkN_eq k
  have hr : ((lkN k : Nat) : Int) = (IntKind.u64.wrap k).tmod 4 := HK.1
  have hb := HK.2
  have hB := (Below.refl w.heap.size w).alloc (Nat.le_refl _) (.cells #[.int .i64 k, .int .i64 a, .int .i64 b, .int .i64 c, .int .i64 d, .string s] 28)
  show Calls _ _ _ _ fun e w' => e = .returned (.int .i64 (lkN k : Nat)) ∧ _
  generalize lkN k = q at *
  have hr2 : (IntKind.u64.wrap k).tmod 4 = (q : Int) := hr.symm
  clear HK hr
  have H := Lib.hid hB
  clear hB
  go_enter Try.func11, Try.ntmps11
  go_wp2_with fail
  go_ret
  exact ⟨rfl, H.out⟩
end Go.Proofs.Ytemnioijgkahcaa
