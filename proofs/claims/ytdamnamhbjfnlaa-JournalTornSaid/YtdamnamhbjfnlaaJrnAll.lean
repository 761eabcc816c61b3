/-
  Package journal: All, of whatever disk; rows of a call's own, with the blocks of their bytes told.
-/
import Derived.Test.YtdamnamhbjfnlaaJrnE
namespace Go.Proofs.Ytdamnamhbjfnlaa
open Go.RowKit Go.Shelf Fr
attribute [local go_sem] Oper.semAt_some

/-- Rows of bytes in a row of the call's own; the bytes, too, lie from block B on. -/
def OwnF (w : World) (B : Nat) (v : Value) (ls : List (List Nat)) : Prop :=
  ∃ xs, w.ownsRow B 33 1 v ls.length xs ∧ ∀ j, j < ls.length → ∃ x, xs[j]? = some x ∧ Fits w v x (ls.getD j []) ∧ ∀ a n c, x = .slice (some a) n c → B ≤ a.block
theorem OwnF.none_ (w : World) (B : Nat) : OwnF w B (.slice none 0 0) [] := ⟨[], World.ownsRow_nil _ _ _ _, fun j hj => by simp at hj⟩
theorem OwnF.rows {w : World} {B : Nat} {v : Value} {ls : List (List Nat)} (h : OwnF w B v ls) : OwnS w B v ls := by
  obtain ⟨xs, h1, h2⟩ := h
  exact ⟨xs, h1, fun j hj => by obtain ⟨x, h3, h4, _⟩ := h2 j hj; exact ⟨x, h3, h4⟩⟩
theorem OwnF.lower {w : World} {B B' : Nat} {v : Value} {ls : List (List Nat)} (h : OwnF w B v ls) (hB : B' ≤ B) : OwnF w B' v ls := by
  obtain ⟨xs, h1, h2⟩ := h
  exact ⟨xs, own_lower h1 hB, fun j hj => by obtain ⟨x, h3, h4, h5⟩ := h2 j hj; exact ⟨x, h3, h4, fun a n c e => Nat.le_trans hB (h5 a n c e)⟩⟩
theorem OwnF.kept {F : Nat → Prop} {w w' : World} {B : Nat} {v : Value} {ls : List (List Nat)} (h : OwnF w B v ls) (hk : Kept F w w') (hF : ∀ i, B ≤ i → i < w.heap.size → ¬ F i) : OwnF w' B v ls := by
  obtain ⟨xs, ho, hf⟩ := h
  refine ⟨xs, ⟨ho.1, ?_⟩, fun j hj => ?_⟩
  · rcases ho.2 with h2 | ⟨g, cap, cur, hv, hg, hh, r⟩
    · exact .inl h2
    · have hlt := (Array.getElem?_eq_some_iff.1 hh).1
      exact .inr ⟨g, cap, cur, hv, hg, (hk.block g hlt (hF g hg hlt)).trans hh, r⟩
  · obtain ⟨x, hx, ⟨A, n, c, e, hs, hfar⟩, hb⟩ := hf j hj
    refine ⟨x, hx, ⟨A, n, c, e, ⟨⟨hs.rd.1, fun hl => ?_⟩, hs.len, hs.cap, hs.max, hs.nil⟩, hfar⟩, hb⟩
    obtain ⟨b, o, e2, hbb, hc⟩ := hs.rd.2 hl
    exact ⟨b, o, e2, Nat.lt_of_lt_of_le hbb hk.size, fun i hi => (cell_held (a := ⟨b, o + i, none⟩) (hk.block b hbb (hF b (hb ⟨b, o, none⟩ n c (by rw [e, e2])) hbb))).trans (hc i hi)⟩
theorem OwnF.below {w w' : World} {B : Nat} {v : Value} {ls : List (List Nat)} (h : OwnF w B v ls) (hb : Below w.heap.size w w') : OwnF w' B v ls := h.kept (Kept.of_below (F := fun _ => False) hb) fun _ _ _ hf => hf
/-- append of one such row, in a fence. -/
theorem wpListIn_append_rowF {F : Fence} {nF : Nat} {w : World} {ops : Array Oper} {rest : List Oper} {op : Oper} {a : Act} {Q : Exit → Act → World → Prop} (hgd : op.guard = none) (s x : Operand)
    (ho : op.op = .call { callee := .builtin .append, args := #[s, x], argTypes := #[34, 34] })
    (base : Nat) (v : Value) (ls : List (List Nat)) (hs : a.eval s = v) (hown : OwnF w base v ls) (A : Option Addr) (n c : Nat) (l : List Nat) (hl : Sl w A n c l) (hA : ∀ a, A = some a → base ≤ a.block) (hx : a.eval x = .slice (some ⟨w.heap.size, 0, none⟩) 1 1)
    (hfar : ∀ a, A = some a → v.ownBlock ≠ some a.block) (hlen : ls.length ≤ 3000000000) (hbase : base ≤ w.heap.size)
    (h : ∀ v' w', OwnF w' base v' (ls ++ [l]) → w.grownBy w' v.ownBlock → wpListIn F nF Try.prog ops Q rest (a.put op.dst v') w') : wpListIn F nF Try.prog ops Q (op :: rest) a (w.alloc (.cells #[.slice A n c] 33)) := by
  obtain ⟨i0, hi0, hz0, hz1, hz2⟩ := info_parts rowInfo
  have hb := (Below.refl w.heap.size w).alloc (Nat.le_refl _) (.cells #[.slice A n c] 33)
  have hvlt := hown.rows.base
  obtain ⟨xs, ho1, hf⟩ := hown.below hb
  have hxl := ho1.1
  rw [Nat.mul_one] at hxl
  refine wpListIn_append_own_at (F := F) (nF := nF) (P := Try.prog) (w.alloc (.cells #[.slice A n c] 33)) hgd s x 34 ho base 33 i0 _ 1 24 Try.underlying34 hi0 hz0 hz1 hz2 rfl (by omega) v ls.length xs hs ho1 ⟨w.heap.size, 0, none⟩ 1 1 [.slice A n c] hx rfl ?_ ?_ (by unfold maxLen; omega) (by omega) (by simp; omega) ?_
  · intro j u hu
    rcases j with _ | j
    · simp at hu
      subst hu
      have : ((⟨w.heap.size, 0, none⟩ : Addr).add 0) = ⟨w.heap.size, 0, none⟩ := by unfold Addr.add; split <;> simp_all
      rw [this, World.cell?_alloc_at _ _ _ _ rfl]; rfl
    · simp at hu
  · intro u hu; simp at hu; subst hu; rfl
  · intro v' w' h1 h2 _ h4
    have hg : w.grownBy w' v.ownBlock := grown_trans (World.grownBy_alloc w _ _) h2
    have hsz : (w.alloc (.cells #[.slice A n c] 33)).heap.size = w.heap.size + 1 := by simp
    refine h v' w' ⟨xs ++ [.slice A n c], by rw [List.length_append]; exact h1, fun j hj => ?_⟩ hg
    rw [List.length_append, List.length_singleton] at hj
    by_cases hjl : j < ls.length
    · obtain ⟨y, hy, hfy, hby⟩ := hf j hjl
      refine ⟨y, ?_, ?_, hby⟩
      · rw [List.getElem?_append_left (by omega)]; exact hy
      · rw [getD_append_l _ _ _ _ hjl]; exact hfy.grown h2 h4
    · obtain rfl : j = ls.length := by omega
      refine ⟨.slice A n c, by rw [List.getElem?_append_right (by omega), hxl]; simp, ?_, fun a' n' c' e => by injection e with e1; exact hA a' e1⟩
      rw [getD_append_r _ _ _ _ (Nat.le_refl _) (by simp), Nat.sub_self]
      exact (Fits.grown ⟨A, n, c, rfl, hl.on hb, fun _ a ha => hfar a ha⟩ h2 h4)
/-- What All answers. -/
def JAllF (ls : List (List Nat)) (w : World) (e : Ending) (w' : World) : Prop := ∃ A c, e = .returned (.slice A ls.length c) ∧ OwnF w' w.heap.size (.slice A ls.length c) ls ∧ Below w.heap.size w w'

set_option maxHeartbeats 1600000 in
theorem jall_any (p0 d0 : Option Addr) (l : List Nat) (w : World) (hl : l.length ≤ 1000000000)
    (hd : ∀ W, Below w.heap.size w W → Calls Try.prog 42 #[.pointer p0] W fun e w' => e = .returned (.pointer d0) ∧ w' = W)
    (ha : ∀ W, Below w.heap.size w W → Calls Try.prog 45 #[.pointer d0] W (BPost l W)) :
    Calls Try.prog 28 #[.pointer p0] w (JAllF (scan l).1 w) := by
  have HD := Lib.hid hd
  have HA := Lib.hid ha
  clear hd ha
  refine (callsIn_wide (n := 3)).1 ?_
  refine callsIn_of_wp_marks Try.func28 rfl trivial ?_ rfl
  simp only [Try.ntmps28, List.size_toArray, List.length_cons, List.length_nil, Nat.reduceAdd, Nat.reduceSub, Array.replicate_succ, Array.replicate_zero, List.push_toArray, List.append_toArray, List.nil_append, List.cons_append]
  have hcount : (scan l).1.length ≤ 1000000000 := Nat.le_trans (scan_count l) hl
  have hb1 := (Below.refl w.heap.size w).alloc (Nat.le_refl _) (.cells #[.slice none 0 0] 34)
  have hc1 := heap_alloc_new w (.cells #[.slice none 0 0] 34)
  have hs1 : (w.alloc (.cells #[.slice none 0 0] 34)).heap.size = w.heap.size + 1 := by simp
  gi_wp2_with fail
  generalize w.alloc (.cells #[.slice none 0 0] 34) = w1 at *
  refine ⟨trivial, callsIn_wide.2 ?_⟩
  refine (HD.out w1 hb1).mono ?_
  rintro e w1' ⟨rfl, rfl⟩
  gi_wp2_with fail
  refine ⟨trivial, callsIn_wide.2 ?_⟩
  refine (HA.out w1' hb1).mono ?_
  rintro e w2 ⟨A2, c2, rfl, ho2, hb2⟩
  gi_wp2_with fail
  refine ⟨trivial, callsIn_wide.2 ?_⟩
  refine (jentries_any _ c2 A2 _).mono ?_
  rintro e w3 ⟨rfl, rfl⟩
  gi_wp2_with fail
  have hb3 := (Below.refl w2.heap.size w2).alloc (Nat.le_refl _) (.cells #[.slice A2 l.length c2] 33)
  have hbox := heap_alloc_new w2 (.cells #[.slice A2 l.length c2] 33)
  have hs3 : (w2.alloc (.cells #[.slice A2 l.length c2] 33)).heap.size = w2.heap.size + 1 := by simp
  have S := Lib.hid (ho2.sls.on hb3)
  have hfrom := ho2.from_
  have hlt2 := ho2.sls.block
  have hz2 := hb2.size
  have hcell := (hb3.block w.heap.size (by omega)).trans ((hb2.block w.heap.size (by omega)).trans hc1)
  have hbw := (hb1.trans (hb2.mono hb1.size)).trans (hb3.mono (Nat.le_trans hb1.size hb2.size))
  generalize w2.alloc (.cells #[.slice A2 l.length c2] 33) = W0 at *
  clear ho2 hc1 hb1 hb2 hb3
  refine wpIn_range_rows (gf := 65) (lb := #[.pointer (some ⟨w2.heap.size, 0, none⟩)]) rfl (enters_of Try.func65 (by kernel_rfl) rfl) (Y := fun i => i = w.heap.size ∨ W0.heap.size + 2 ≤ i)
    (jentries_rows l.length c2 A2 l W0 _ S.out hbox hl _ (fun h0 a ha hz => by have := hfrom a ha; have := hlt2 h0 a ha; omega)) rfl (by omega) (by omega)
    (fun k W => (∃ v, W.heap[w.heap.size]? = some (.cells #[v] 34 (0, 0)) ∧ OwnF W (W0.heap.size + 2) v ((scan l).1.take k)) ∧ Below w.heap.size w W) ?inv ?start
    (fun x => { tmps := #[.pointer p0, undef, .slice none 0 0, .pointer (some ⟨w.heap.size, 0, none⟩), x, .pointer p0, .pointer d0, .slice A2 l.length c2, .func (.func 65) #[] #[.pointer (some ⟨w2.heap.size, 0, none⟩)], x, undef, undef, undef, undef, undef], defers := [] }) ?assign ?body ?done
  case inv =>
    rintro k X Y ⟨⟨v, h1, h3⟩, h2⟩ hX hK
    exact ⟨⟨v, (hK.block _ (Array.getElem?_eq_some_iff.1 h1).1 (by omega)).trans h1, h3.kept hK (fun i hi _ hf => by omega)⟩, h2.trans (hK.below h2.size (fun i hi => by omega))⟩
  case start =>
    intro W1 hb hz
    exact ⟨⟨_, (hb.block _ (by omega)).trans hcell, by rw [List.take_zero]; exact OwnF.none_ _ _⟩, hbw.trans (hb.mono hbw.size)⟩
  case assign =>
    intro y x W K hK
    gi_wp2
    exact hK
  case body =>
    rintro y k A' c' p V0 V hp ⟨⟨v, h1, h3⟩, h2⟩ hz0 hk ho
    have hkl := (List.getElem?_eq_some_iff.1 hp).1
    have HL : Hid (((scan l).1.take k).length ≤ 3000000000) := by show _ ≤ _; rw [List.length_take]; omega
    have HT : Hid ((scan l).1.take (k + 1) = (scan l).1.take k ++ [p]) := by
      show _ = _
      rw [List.take_succ_eq_append_getElem hkl, (List.getElem?_eq_some_iff.1 hp).2]
    obtain ⟨q, hq⟩ : ∃ q, q = (scan l).1.take k := ⟨_, rfl⟩
    rw [← hq] at h3 HL HT
    have HQ := Lib.hid hq
    clear hq
    have hzV := hk.size
    have hv0 := h3.rows.base
    have h1V := (hk.block w.heap.size (Array.getElem?_eq_some_iff.1 h1).1 (by omega)).trans h1
    have h3V := h3.kept hk (fun i hi _ hf => by omega)
    have b3 := Lib.hid (h2.trans (hk.below h2.size (fun i hi => by omega)))
    have hc : V.cell? ⟨w.heap.size, 0, none⟩ = some v := by rw [cell_of_row V w.heap.size 0 _ _ _ h1V]; rfl
    have H1 := Lib.hid h1V
    have H3 := Lib.hid h3V
    have HO := Lib.hid ho
    have HF : Hid (∀ a, A' = some a → v.ownBlock ≠ some a.block) := fun a ha e => by
      have h5 := HO.out.from_ a ha
      have h6 := (hv0 _ e).2
      omega
    have HBl : Hid (∀ a, A' = some a → W0.heap.size + 2 ≤ a.block) := fun a ha => Nat.le_trans hz0 (HO.out.from_ a ha)
    have HV0 : Hid (∀ i, v.ownBlock = some i → W0.heap.size + 2 ≤ i) := fun i e => (hv0 i e).1
    have HV : Hid (v.ownBlock ≠ some w.heap.size) := fun e => by have := (hv0 _ e).1; omega
    have hbase : W0.heap.size + 2 ≤ V.heap.size := by omega
    obtain ⟨Av, cv, rfl, _⟩ := h3V.rows.sls
    clear h1 h2 hp h3 ho hk h1V h3V hv0 hkl
    gi_wp2_with (gi_at_builtin; refine wpListIn_append_rowF rfl (.tmp 10) (.tmp 12) rfl (W0.heap.size + 2) _ _ rfl H3.out A' p.length c' p HO.out.sls HBl.out rfl HF.out HL.out hbase ?_; intro v3 w3 ho3 hg3; have O3 := Lib.hid ho3; have G3 := Lib.hid hg3; have hb3' := (hg3.block w.heap.size (Array.getElem?_eq_some_iff.1 H1.out).1 (fun e => HV.out e.symm)).trans H1.out; obtain ⟨A3, c3, rfl, _⟩ := ho3.rows.sls; have hc3 := frozen_of_row w3 w.heap.size 0 _ _ hb3'; have hc4 := cell_of_row w3 w.heap.size 0 _ _ _ hb3'; have B3 := Lib.hid hb3'; clear ho3 hg3 hb3')
    have k1 : Kept (fun i => i = w.heap.size ∨ w2.heap.size + 1 + 2 ≤ i) V w3 := Kept.of_grown G3.out (fun i e => .inr (by have := HV0.out i e; omega))
    have k2 : Kept (fun i => i = w.heap.size) w3 (w3.setCell ⟨w.heap.size, 0, none⟩ (.slice A3 (q.length + 1) c3)) := Kept.of_grown (grown_set _ _ _ _) (fun i hi => by injection hi with hi; exact hi.symm)
    have k3 := k1.trans k2 fun _ _ h => .inl h
    have o3 := O3.out
    rw [hs3, List.length_append, List.length_singleton] at o3
    refine ⟨k3, ⟨_, heap_setCell_same _ _ 0 _ _ _ B3.out, ?_⟩, b3.out.trans (k3.below b3.out.size (fun i hi => by omega))⟩
    rw [HT.out]
    exact o3.kept k2 fun i h1 _ h2 => by omega
  case done =>
    rintro V ⟨⟨v, h1, h3⟩, h2⟩ hz hdd
    rw [List.take_length] at h3
    obtain ⟨Av, cv, rfl, _⟩ := h3.rows.sls
    have hc : V.cell? ⟨w.heap.size, 0, none⟩ = some (.slice Av (scan l).1.length cv) := by rw [cell_of_row V w.heap.size 0 _ _ _ h1]; rfl
    gi_wp2_with fail
    refine ⟨by simp, .inl ⟨_, _, rfl, run_takeDeferred hdd, ?_⟩⟩
    have k4 := Kept.putObj V W0.heap.size (.deferred none)
    exact ⟨_, results_tmp rfl _ _ _, Av, cv, rfl, (h3.kept k4 fun i h1 _ h2 => by omega).lower (by omega), h2.trans (k4.below (by omega) (fun i hi => by omega))⟩
end Go.Proofs.Ytdamnamhbjfnlaa
