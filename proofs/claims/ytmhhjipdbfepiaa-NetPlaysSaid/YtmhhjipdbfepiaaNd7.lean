/-
  Package net: Send, Twice. No condition.
-/
import Derived.Test.YtmhhjipdbfepiaaNd2
import Derived.Test.YtmhhjipdbfepiaaNd6
namespace Go.Proofs.Ytmhhjipdbfepiaa
open Go.RowKit Go.Deep
set_option maxRecDepth 100000
set_option linter.unusedSimpArgs false
set_option linter.unusedVariables false

theorem nturn_then {G G' : Nat → Prop} {r : Nat} {s : Nt.St} {v : Value} {w w2 w3 : World} {e : Ending} (hb : Kept G w w2) (hG : ∀ i, G' i → G i ∨ w.heap.size ≤ i) (h : NTurn G' r s v w2 e w3) : NTurn G r s v w e w3 := by
  obtain ⟨G2, he, hn, hg, hk⟩ := h
  refine ⟨G2, he, hn, fun i hi => ?_, hb.trans hk fun i hi h => (hG i h).resolve_right (by omega)⟩
  rcases hg i hi with h | h
  · exact hG i h
  · exact .inr (Nat.le_trans hb.size h)
theorem wpList_load_want {P : Program} {ops : Array Oper} {rest : List Oper} {o : Oper} {a : Act} {w : World} {Q : Exit → Act → World → Prop} (hgd : Region.wanted o (yielded ops a.tmps) = true) (ty : TypeId) (x : Operand) (ho : o.op = .load ty x)
    (b f : Nat) (hx : a.eval x = .pointer (some ⟨b, f, none⟩)) (cs : List Value) (d : TypeDesc) (hc : w.rangeAt b f cs)
    (hu : P.underlying ty = some d) (hd : d.isRow = true) (hi : (P.info? ty).map (·.size) = some cs.length)
    (h : wpList P ops Q rest (a.put o.dst (.agg cs.toArray)) w) : wpList P ops Q (o :: rest) a w := by
  simp only [wpList, hgd, if_true]
  exact .inl (wp_load_mid ty x ho b f hx cs d hc hu hd hi h)
theorem wpList_load_msgw {ops : Array Oper} {rest : List Oper} {o : Oper} {a : Act} {w : World} {Q : Exit → Act → World → Prop} (hgd : Region.wanted o (yielded ops a.tmps) = true) (x : Operand) (ho : o.op = .load 32 x)
    (b f : Nat) (hx : a.eval x = .pointer (some ⟨b, f, none⟩)) (m : Nt.M) (hc : w.rangeAt b f (Nt.mC m)) (h : wpList Try.prog ops Q rest (a.put o.dst (Nt.val m)) w) : wpList Try.prog ops Q (o :: rest) a w :=
  wpList_load_want hgd 32 x ho b f hx (Nt.mC m) _ hc msg_fields rfl (msg_size m) h
theorem nput_any (w : World) (G : Nat → Prop) (r : Nat) (s : Nt.St) (m : Nt.M) (h : NP w G r s) (hm : Nt.In m) (hlo : 0 ≤ s.lost ∧ s.lost ≤ 1000000) : Calls Try.prog 34 #[.pointer (some ⟨r, 0, none⟩), Nt.val m] w (NTurn G r (Nt.putS s m) (.int .i64 (Nt.putE s)) w) := by
  by_cases hf : s.l.length < s.room
  · exact nput_yes w G r s m h hm hf
  · exact nput_no w G r s m h hm hf hlo
theorem nsend_nil (w : World) (m : Nt.M) : Calls Try.prog 16 #[.pointer none, Nt.val m] w (NPos w (.int .i64 1)) := by
  have B1 := Lib.hid ((Below.refl w.heap.size w).alloc (Nat.le_refl _) (.cells (Nt.cs m) 32))
  go_enter Try.func16, Try.ntmps16
  go_wp2_with fail
  go_ret
  exact ⟨rfl, B1.out⟩
theorem ntwice_nil (w : World) (at_ : Int) : Calls Try.prog 22 #[.pointer none, .int .i64 at_] w (fun e w' => e = .returned (.int .i64 1) ∧ w' = w) := by
  go_enter Try.func22, Try.ntmps22
  go_wp2_with fail
  go_ret
  exact ⟨rfl, rfl⟩
set_option maxHeartbeats 1600000 in
theorem nsend_any (w : World) (G : Nat → Prop) (r : Nat) (s : Nt.St) (m : Nt.M) (h : NP w G r s) (hm : Nt.In m) (hlo : 0 ≤ s.lost ∧ s.lost ≤ 1000000) (hse : 0 ≤ s.sent ∧ s.sent ≤ 1000000) : Calls Try.prog 16 #[.pointer (some ⟨r, 0, none⟩), Nt.val m] w (NTurn G r (Nt.sendS s m) (.int .i64 (Nt.sendE s m)) w) := by
  have hb1 : Below w.heap.size w (w.alloc (.cells (Nt.cs m) 32)) := (Below.refl _ _).alloc (Nat.le_refl _) _
  have B1 := Lib.hid hb1
  have N1 := Lib.hid (h.on hb1)
  have X1 := Lib.hid (NtAt.new w m)
  have CM := Lib.hid (fun W => nmay_any m W)
  have HM := Lib.hid hm
  have HLO := Lib.hid hlo
  have HSE := Lib.hid hse
  have HL := Lib.hid h.lt
  have OKS := Lib.hid (Nt.send_ok h.ok hm)
  clear h hb1 hm hlo hse
  cases hr : Nt.right m with
  | false =>
    have ES : Hid (Nt.sendE s m = 1 ∧ Nt.sendS s m = s) := by
      show _ ∧ _
      unfold Nt.sendE Nt.sendS
      rw [hr, if_neg (by decide), if_neg (by decide)]
      exact ⟨rfl, rfl⟩
    rw [ES.out.1, ES.out.2]
    rw [hr] at CM
    clear hr ES OKS
    go_enter Try.func16, Try.ntmps16
    go_upto_region 1 with fail
    generalize w.alloc (.cells (Nt.cs m) 32) = w1 at *
    obtain ⟨g, hg⟩ : ∃ g, g = w.heap.size := ⟨_, rfl⟩
    rw [← hg] at X1 ⊢
    clear hg
    go_wp2_with (first
      | ((with_reducible show wpList _ _ _ ({ dst := some 9, op := .load _ _, type := _, pos := _, after := _, guard := _ } :: _) _ _); refine wpList_load_msgw rfl (.tmp 3) rfl g 0 rfl m X1.out.range ?_)
      | (go_at_call 33; (with_reducible refine (CM.out _).mono ?_); rintro e w2 ⟨rfl, hb2⟩; have N2 := Lib.hid (N1.out.on hb2); have B2 := Lib.hid (B1.out.trans (hb2.mono B1.out.size)); clear hb2))
    go_ret
    exact ⟨G, rfl, N2.out, fun i hi => .inl hi, Kept.of_below B2.out⟩
  | true =>
    rw [hr] at CM
    have ES : Hid (Nt.sendE s m = Nt.putE s) := by
      show _ = _
      unfold Nt.sendE
      rw [hr, if_pos rfl]
    rw [ES.out]
    go_enter Try.func16, Try.ntmps16
    go_upto_region 1 with fail
    generalize w.alloc (.cells (Nt.cs m) 32) = w1 at *
    obtain ⟨g, hg⟩ : ∃ g, g = w.heap.size := ⟨_, rfl⟩
    rw [← hg] at X1 ⊢
    clear hg ES
    go_upto_region 3 with (first
      | ((with_reducible show wpList _ _ _ ({ dst := some 9, op := .load _ _, type := _, pos := _, after := _, guard := _ } :: _) _ _); refine wpList_load_msgw rfl (.tmp 3) rfl g 0 rfl m X1.out.range ?_)
      | (go_at_call 33; (with_reducible refine (CM.out _).mono ?_); rintro e w2 ⟨rfl, hb2⟩; have N2 := Lib.hid (N1.out.on hb2); have B2 := Lib.hid (B1.out.trans (hb2.mono B1.out.size)); have X2 := Lib.hid (X1.out.on hb2); clear hb2))
    have CP := Lib.hid (nput_any w2 G r s m N2.out HM.out HLO.out)
    by_cases hf : s.l.length < s.room
    · have HE : Hid (Nt.putE s = 0) := by show _ = _; unfold Nt.putE; rw [if_pos hf]
      have HS : Hid (Nt.putS s m = ⟨s.room, s.l ++ [m], s.sent, s.lost⟩) := by show _ = _; unfold Nt.putS; rw [if_pos hf]
      have HS2 : Hid (Nt.sendS s m = ⟨s.room, s.l ++ [m], s.sent + 1, s.lost⟩) := by show _ = _; unfold Nt.sendS; rw [if_pos hr, if_pos hf]
      rw [HE.out, HS.out] at CP
      rw [HS2.out] at OKS
      obtain ⟨room, l, sent, lost⟩ := s
      simp only at *
      have hsw : wrap64 (sent + 1) = sent + 1 := IntWalk.wrap64_in _ ⟨by have := HSE.out; omega, by have := HSE.out; omega⟩
      go_upto_region 5 with (first
        | ((with_reducible show wpList _ _ _ ({ dst := some 14, op := .load _ _, type := _, pos := _, after := _, guard := _ } :: _) _ _); refine wpList_load_msg rfl (.tmp 3) rfl g 0 rfl m X2.out.range ?_)
        | (go_at_call 34; (with_reducible refine CP.out.mono ?_); rintro e w3 ⟨G3, rfl, hn3, hg3, hk3⟩))
      have HG3 := Lib.hid hg3
      have K3 := Lib.hid ((Kept.of_below (F := G) B2.out).trans hk3 fun i _ h => h)
      have L3 := Lib.hid hn3.lt
      have Z3 := Lib.hid B2.out.size
      obtain ⟨c3, V3, hm3, _⟩ := hn3
      have M4 := Lib.hid (hm3.sent (sent + 1))
      have x2 := hm3.cells.c2
      have xf := hm3.cells.fz
      have xl := hm3.cells.lt
      clear hg3 hk3 hm3
      go_wp2_with fail
      go_ret
      show NTurn _ _ _ _ _ (.returned (.int .i64 0)) _
      rw [HE.out, HS2.out]
      refine nturn_then K3.out (fun i hi => (HG3.out i hi).imp id fun h => Nat.le_trans Z3.out h) (NtMid.turn (c := c3) (V := V3) (s := ⟨room, l ++ [m], sent + 1, lost⟩) M4.out OKS.out L3.out)
    · have HE : Hid (Nt.putE s = 4) := by show _ = _; unfold Nt.putE; rw [if_neg hf]
      have HS : Hid (Nt.putS s m = Nt.sendS s m) := by show _ = _; unfold Nt.putS Nt.sendS; rw [if_neg hf, if_pos hr, if_neg hf]
      rw [HE.out, HS.out] at CP
      go_wp2_with (first
        | ((with_reducible show wpList _ _ _ ({ dst := some 14, op := .load _ _, type := _, pos := _, after := _, guard := _ } :: _) _ _); refine wpList_load_msg rfl (.tmp 3) rfl g 0 rfl m X2.out.range ?_)
        | (go_at_call 34; (with_reducible refine CP.out.mono ?_); intro e w3 hp; have hp2 := hp; obtain ⟨G3, he, _⟩ := hp; subst he; have P3 := Lib.hid hp2; clear hp2))
      go_ret
      show NTurn _ _ _ _ _ (.returned (.int .i64 4)) _
      rw [HE.out]
      exact nturn_then (Kept.of_below B2.out) (fun i h => .inl h) P3.out
set_option maxHeartbeats 1600000 in
theorem ntwice_any (w : World) (G : Nat → Prop) (r : Nat) (s : Nt.St) (at_ : Int) (h : NP w G r s) (ha : Nt.i64 at_) (hlo : 0 ≤ s.lost ∧ s.lost ≤ 1000000) : Calls Try.prog 22 #[.pointer (some ⟨r, 0, none⟩), .int .i64 at_] w (NTurn G r (Nt.twiceS s at_) (.int .i64 (Nt.twiceE s)) w) := by
  have hok := h.ok
  have HA := Lib.hid h.ask
  by_cases hl : 0 < s.l.length
  · have E : Hid (Nt.twiceS s at_ = Nt.putS s (Nt.takeM s at_) ∧ Nt.twiceE s = Nt.putE s) := by
      show _ ∧ _
      unfold Nt.twiceS Nt.twiceE
      rw [if_pos hl, if_pos hl]
      exact ⟨rfl, rfl⟩
    rw [E.out.1, E.out.2]
    have hmost := hok.most
    have hfits := hok.fits
    have CF := Lib.hid (nfind_yes w _ s.l s.sent s.lost at_ HA.out hl (by omega) ha)
    have hpl := Nt.pl_lt hl at_
    have hget := Nt.takeM_get hl at_
    have CP := Lib.hid (nput_any w G r s _ h (Nt.takeM_in hok at_) hlo)
    obtain ⟨c, V, hm, _⟩ := h
    obtain ⟨A, k, hV⟩ := hm.own.form
    have hsl := hm.own
    rw [hV] at hsl
    obtain ⟨b, o, hA, hbl, hrg⟩ := nt_range hsl.sl hget
    have RG := Lib.hid hrg
    have x1 := hm.cells.c1
    have xl := hm.cells.lt
    rw [hV, hA] at x1
    have hkc := hsl.len.2.1
    clear hV hA hm hsl hrg hget E hbl
    generalize Nt.takeM s at_ = m at *
    generalize Nt.pl s.l.length at_ = q at *
    generalize s.l.length = n at *
    have i1 : (0 : Int) ≤ (q : Int) := by omega
    have i2 : (q : Int) < (n : Int) := by omega
    go_enter Try.func22, Try.ntmps22
    go_wp2_with (first
      | (go_at_call 36; (with_reducible refine CF.out.mono ?_); rintro e w1 ⟨rfl, rfl⟩)
      | ((with_reducible show wpList _ _ _ ({ dst := some 24, op := .load _ _, type := _, pos := _, after := _, guard := _ } :: _) _ _); refine wpList_load_msg rfl (.tmp 23) rfl b (o + q * 6) rfl m RG.out ?_)
      | (go_at_call 34; (with_reducible refine CP.out.mono ?_); intro e w3 hp; have hp2 := hp; obtain ⟨G3, he, _⟩ := hp; subst he; have P3 := Lib.hid hp2; clear hp2))
    go_ret
    exact P3.out
  · have E : Hid (Nt.twiceS s at_ = s ∧ Nt.twiceE s = 5) := by
      show _ ∧ _
      unfold Nt.twiceS Nt.twiceE
      rw [if_neg hl, if_neg hl]
      exact ⟨rfl, rfl⟩
    rw [E.out.1, E.out.2]
    have hnil : s.l = [] := List.eq_nil_of_length_eq_zero (by omega)
    rw [hnil] at HA
    have CF := Lib.hid (nfind_no w _ s.sent s.lost at_ HA.out)
    have N := Lib.hid h
    clear h hnil E hl hok HA
    go_enter Try.func22, Try.ntmps22
    go_wp2_with (go_at_call 36; (with_reducible refine CF.out.mono ?_); rintro e w1 ⟨rfl, rfl⟩)
    go_ret
    exact ⟨G, rfl, N.out, fun i hi => .inl hi, Kept.refl _ _⟩
end Go.Proofs.Ytmhhjipdbfepiaa
