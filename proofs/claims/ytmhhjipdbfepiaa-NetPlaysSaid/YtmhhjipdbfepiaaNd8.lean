/-
  Package net: Take, Drop. No condition.
-/
import Derived.Test.YtmhhjipdbfepiaaNd7
namespace Go.Proofs.Ytmhhjipdbfepiaa
open Go.RowKit Go.Deep Go.Conc
set_option maxRecDepth 100000
set_option linter.unusedSimpArgs false
set_option linter.unusedVariables false

/-- A block of the call's own that is none of the net's changed. -/
theorem NtMid.other {W0 w w' : World} {G : Nat → Prop} {r c b : Nat} {U V : Value} {room k : Nat} {l : List Nt.M} {se lo : Int} (h : NtMid W0 G w r c U V room k l se lo) (hg : w.grownBy w' (some b)) (h1 : b ≠ r) (h2 : b ≠ c) (h3 : V.ownBlock ≠ some b) (hb : W0.heap.size ≤ b) : NtMid W0 G w' r c U V room k l se lo := by
  obtain ⟨i, j, hc⟩ := h.ch
  refine ⟨(hg.block r h.cells.lt (fun e => h1 (Option.some.inj e).symm)).trans h.row, ⟨i, j, (hg.block c h.clt (fun e => h2 (Option.some.inj e).symm)).trans hc⟩, h.own.keep fun k hk => hg.block k (h.own.lt k hk).2 (fun e => h3 (by rw [hk, ← e])), h.gr, h.gc, h.gv, ?_⟩
  exact h.kept.trans (G := fun i => i = b) (Kept.of_grown hg fun k hk => (Option.some.inj hk).symm) fun i hi e => by omega
theorem ntake_nil (w : World) (p : Option Addr) (at_ se lo : Int) (h : NAsk w p [] se lo) : Calls Try.prog 18 #[.pointer p, .int .i64 at_] w (NPos w (.tuple #[Nt.val Nt.zero, .bool false])) := by
  have hb1 : Below w.heap.size w (w.alloc (.cells (Nt.cs Nt.zero) 32)) := (Below.refl _ _).alloc (Nat.le_refl _) _
  have CF := Lib.hid (nfind_no _ p se lo at_ (h.on hb1))
  have B1 := Lib.hid hb1
  have X1 := Lib.hid (NtAt.new w Nt.zero)
  clear h hb1
  go_enter Try.func18, Try.ntmps18
  go_upto_region 1 with fail
  have hz : w.alloc (.cells #[.int .i64 0, .int .i64 0, .int .i64 0, .int .i64 0, .int .i64 0, .int .i64 0] 32) = w.alloc (.cells (Nt.cs Nt.zero) 32) := rfl
  rw [hz]
  clear hz
  generalize w.alloc (.cells (Nt.cs Nt.zero) 32) = w1 at *
  obtain ⟨g, hg⟩ : ∃ g, g = w.heap.size := ⟨_, rfl⟩
  rw [← hg] at X1 ⊢
  have HG := Lib.hid hg
  clear hg
  go_wp2_with (first
    | (go_at_call 36; (with_reducible refine CF.out.mono ?_); rintro e w2 ⟨rfl, rfl⟩)
    | ((with_reducible show wpList _ _ _ ({ dst := none, op := .store _ _ _, type := _, pos := _, after := _, guard := _ } :: _) _ _); refine wpList_store_msg rfl (.tmp 4) (.tmp 17) rfl Nt.zero Nt.zero rfl rfl X1.out ?_; intro w3 hx hg3; have X3 := Lib.hid hx; have B3 := Lib.hid (B1.out.grown hg3 B1.out.size (fun k hk => by injection hk with hk; have := HG.out; omega)); clear hx hg3))
  refine bodyPost_ret (msg_results2 Try.results18 _ Nt.zero rfl X3.out) rfl ⟨rfl, B3.out⟩
/-- What a Take leaves. -/
def TakePost (G : Nat → Prop) (r : Nat) (s : Nt.St) (at_ : Int) (w : World) (e : Ending) (w' : World) : Prop := NTurn G r (Nt.takeS s at_) (.tuple #[Nt.val (Nt.takeM s at_), .bool (Nt.takeB s)]) w e w'
set_option maxHeartbeats 3200000 in
theorem ntake_any (w : World) (G : Nat → Prop) (r : Nat) (s : Nt.St) (at_ : Int) (h : NP w G r s) (ha : Nt.i64 at_) : Calls Try.prog 18 #[.pointer (some ⟨r, 0, none⟩), .int .i64 at_] w (TakePost G r s at_ w) := by
  unfold TakePost
  have hok := h.ok
  by_cases hl : 0 < s.l.length
  · have hb1 : Below w.heap.size w (w.alloc (.cells (Nt.cs Nt.zero) 32)) := (Below.refl _ _).alloc (Nat.le_refl _) _
    have h1 := h.on hb1
    have OK2 := Lib.hid (Nt.take_ok hok at_)
    have E : Hid (Nt.takeS s at_ = ⟨s.room, Nt.cutL s.l (Nt.pl s.l.length at_), s.sent, s.lost⟩ ∧ Nt.takeB s = true) := by
      show _ ∧ _
      unfold Nt.takeS Nt.takeB
      rw [if_pos hl]
      exact ⟨rfl, decide_eq_true hl⟩
    rw [E.out.1] at OK2
    have hmost := hok.most
    have hfits := hok.fits
    have CF := Lib.hid (nfind_yes _ _ s.l s.sent s.lost at_ h1.ask hl (by omega) ha)
    have hpl := Nt.pl_lt hl at_
    have hget := Nt.takeM_get hl at_
    have HG := Lib.hid h.lt
    obtain ⟨c, V, hm, hgr, hgc, hgv, _⟩ := h
    obtain ⟨A, k, hV⟩ := hm.own.form
    subst hV
    obtain ⟨g, hA⟩ : ∃ g, A = some ⟨g, 0, none⟩ := by
      rcases own_split hm.own with ⟨_, _, h3⟩ | ⟨g, h3, _⟩
      · rw [h3] at hl; simp at hl
      · exact ⟨g, h3⟩
    subst hA
    have hm1 := hm.on hb1
    have RG := Lib.hid (own_range hm1.own hget)
    have hkc := hm1.own.len.2.1
    have hcl := Nt.cutL_len hpl
    have NG : Hid (g < w.heap.size ∧ c < w.heap.size ∧ r < w.heap.size ∧ g ≠ r ∧ g ≠ c ∧ c ≠ r) := ⟨(hm.own.lt g rfl).2, hm.clt, hm.cells.lt, fun e => hm.vr (by rw [← e]; rfl), fun e => hm.vc (by rw [← e]; rfl), hm.ne⟩
    have M1 := Lib.hid hm1
    have B1 := Lib.hid hb1
    have X1 := Lib.hid (NtAt.new w Nt.zero)
    clear hm hm1 h1 hb1 hget hok hgr hgc hgv
    have E2 := E.out
    rw [E2.1, E2.2]
    clear E E2
    obtain ⟨room, l, sent, lost⟩ := s
    simp only at *
    generalize Nt.takeM ⟨room, l, sent, lost⟩ at_ = m at *
    generalize Nt.pl l.length at_ = q at *
    obtain ⟨n, hn⟩ : ∃ n, n = l.length := ⟨_, rfl⟩
    rw [← hn] at M1 hl hkc hpl hcl hfits
    have HN := Lib.hid hn
    clear hn
    have i1 : (0 : Int) ≤ (q : Int) := by omega
    have i2 : (q : Int) < (n : Int) := by omega
    have hqw : wrap64 ((q : Int) + 1) = (q : Int) + 1 := IntWalk.wrap64_in _ ⟨by omega, by omega⟩
    go_enter Try.func18, Try.ntmps18
    go_upto_region 1 with fail
    have hz : w.alloc (.cells #[.int .i64 0, .int .i64 0, .int .i64 0, .int .i64 0, .int .i64 0, .int .i64 0] 32) = w.alloc (.cells (Nt.cs Nt.zero) 32) := rfl
    rw [hz]
    clear hz
    generalize w.alloc (.cells (Nt.cs Nt.zero) 32) = w1 at *
    obtain ⟨g0, hg0⟩ : ∃ g, g = w.heap.size := ⟨_, rfl⟩
    rw [← hg0] at X1 ⊢
    have HG0 := Lib.hid hg0
    clear hg0
    have x1 := M1.out.cells.c1
    have xl := M1.out.cells.lt
    go_upto_region 5 with (first
      | (go_at_call 36; (with_reducible refine CF.out.mono ?_); rintro e wz ⟨rfl, hw⟩; rw [hw]; clear hw wz)
      | ((with_reducible show wpList _ _ _ ({ dst := some 24, op := .load _ _, type := _, pos := _, after := _, guard := _ } :: _) _ _); refine wpList_load_msg rfl (.tmp 23) rfl g (q * 6) rfl m RG.out ?_))
    clear x1 xl CF RG
    have hb2 : Below w1.heap.size w1 (w1.alloc (.cells (Nt.cs m) 32)) := (Below.refl _ _).alloc (Nat.le_refl _) _
    have M2 := Lib.hid (M1.out.on hb2)
    have X2 := Lib.hid (X1.out.on hb2)
    have Y2 := Lib.hid (NtAt.new w1 m)
    have NN : Hid (g0 ≠ g ∧ g0 ≠ r ∧ g0 ≠ c ∧ w1.heap.size ≠ g ∧ w1.heap.size ≠ r ∧ w1.heap.size ≠ c) := by
      have h1 := NG.out
      have h2 := HG0.out
      have h3 := B1.out.size
      show _ ∧ _
      omega
    have B2 := Lib.hid (B1.out.trans (hb2.mono B1.out.size))
    clear hb2 X1 B1 M1
    generalize w1.alloc (.cells (Nt.cs m) 32) = w2 at *
    obtain ⟨g1, hg1⟩ : ∃ g, g = w1.heap.size := ⟨_, rfl⟩
    rw [← hg1] at Y2 NN ⊢
    clear hg1
    have CD := Lib.hid (ndel_any w2 0 g k n q l M2.out.own hpl (by omega))
    have x1 := M2.out.cells.c1
    have xl := M2.out.cells.lt
    have xf := M2.out.cells.fz
    obtain ⟨N, hN⟩ : ∃ N, N = (Nt.cutL l q).length := ⟨_, rfl⟩
    have hN1 : n - 1 = N := by omega
    rw [hN1] at CD
    have LN := Lib.hid hN
    have RM : Hid (room - N = room - n + 1 ∧ room - n < room) := by show _ ∧ _; omega
    clear hN1 hcl hN
    go_upto_region 6 with (go_at_call 37; (with_reducible refine CD.out.mono ?_); rintro e w3 ⟨rfl, ho3, hg3⟩; have M3 := Lib.hid (M2.out.row' ho3 hg3 (.inl rfl)); have X3 := Lib.hid (X2.out.keep (hg3.block _ X2.out.cs.lt (fun e => NN.out.1 (by have h9 := Option.some.inj e; omega)))); have Y3 := Lib.hid (Y2.out.keep (hg3.block _ Y2.out.cs.lt (fun e => NN.out.2.2.2.1 (by have h9 := Option.some.inj e; omega)))); clear ho3 hg3 x1 xl xf; have x1 := M3.out.cells.c1; have xl := M3.out.cells.lt; have xf := M3.out.cells.fz)
    have M4 := Lib.hid (M3.out.slot (.slice (some ⟨g, 0, none⟩) N k))
    have X4 := Lib.hid (X3.out.keep (w' := w3.setCell ⟨r, 1, none⟩ (.slice (some ⟨g, 0, none⟩) N k)) (heap_setCell_other _ _ _ _ (fun e => NN.out.2.1 (by first | exact e | exact e.symm))))
    have Y4 := Lib.hid (Y3.out.keep (w' := w3.setCell ⟨r, 1, none⟩ (.slice (some ⟨g, 0, none⟩) N k)) (heap_setCell_other _ _ _ _ (fun e => NN.out.2.2.2.2.1 (by first | exact e | exact e.symm))))
    clear M2 X2 Y2 M3 X3 Y3 CD x1 xl xf
    generalize w3.setCell ⟨r, 1, none⟩ (.slice (some ⟨g, 0, none⟩) N k) = w4 at *
    have x0 := M4.out.cells.c0
    obtain ⟨ci, cj, hc⟩ := M4.out.ch
    refine ops_region [0, 1, 2, 3, 4, 5] rfl ?_
    refine ops_val (v := .pointer (some ⟨r, 0, none⟩)) (w' := w4) rfl rfl (by simp [execOp, Act.eval, go_sem]) ?_
    simp only [Act.put, List.setIfInBounds_toArray, List.set_cons_zero, List.set_cons_succ]
    refine ops_val (v := .pointer (some ⟨r, 0, none⟩)) (w' := w4) rfl rfl (by simp [execOp, Act.eval, go_sem]) ?_
    simp only [Act.put, List.setIfInBounds_toArray, List.set_cons_zero, List.set_cons_succ]
    refine ops_val (v := .pointer (some ⟨r, 0, none⟩)) (w' := w4) rfl rfl (by simp [execOp, Act.eval, go_sem]) ?_
    simp only [Act.put, List.setIfInBounds_toArray, List.set_cons_zero, List.set_cons_succ]
    refine ops_val (v := .chan (some c)) (w' := w4) rfl rfl (by simp [execOp, Act.eval, go_sem, x0]) ?_
    simp only [Act.put, List.setIfInBounds_toArray, List.set_cons_zero, List.set_cons_succ]
    refine ops_val (v := tok) (w' := w4) rfl rfl (by simp [execOp, Act.eval, go_sem]) ?_
    simp only [Act.put, List.setIfInBounds_toArray, List.set_cons_zero, List.set_cons_succ]
    refine ops_send (c := c) (v := tok) (z := .tuple #[]) rfl rfl (by simp [execOp, scase, Act.eval, go_sem]) hc (by simp [toks]; have := RM.out; omega) ?_
    rw [toks_push]
    refine ops_nil ?_
    have M5 := Lib.hid (M4.out.chan (room - n + 1) (ci + 1) cj)
    have X5 := Lib.hid (X4.out.keep (setChan_off w4 (c := c) (b := g0) room (toks (room - n + 1)) false (ci + 1) cj false (fun e => NN.out.2.2.1 (by first | exact e | exact e.symm))))
    have Y5 := Lib.hid (Y4.out.keep (setChan_off w4 (c := c) (b := g1) room (toks (room - n + 1)) false (ci + 1) cj false (fun e => NN.out.2.2.2.2.2 (by first | exact e | exact e.symm))))
    clear M4 X4 Y4 x0 hc
    generalize w4.setChan c room (toks (room - n + 1)) false (ci + 1) cj false = w5 at *
    simp only [Act.put, List.setIfInBounds_toArray, List.set_cons_zero, List.set_cons_succ]
    go_wp2_with (first
      | ((with_reducible show wpList _ _ _ ({ dst := some 41, op := .load _ _, type := _, pos := _, after := _, guard := _ } :: _) _ _); refine wpList_load_msg rfl (.tmp 8) rfl g1 0 rfl m Y5.out.range ?_)
      | ((with_reducible show wpList _ _ _ ({ dst := none, op := .store _ _ _, type := _, pos := _, after := _, guard := _ } :: _) _ _); go_loud (refine wpList_store_msg rfl (.tmp 4) (.tmp 41) rfl Nt.zero m rfl rfl X5.out ?_; intro w6 hx6 hg6; have X6 := Lib.hid hx6; have NG6 : (Value.slice (some ⟨g, 0, none⟩) N k).ownBlock ≠ some g0 := fun e => NN.out.1 (Option.some.inj e).symm; have M6 := Lib.hid (M5.out.other hg6 NN.out.2.1 NN.out.2.2.1 NG6 (by rw [HG0.out]; exact Nat.le_refl _)); clear hx6 hg6)))
    refine bodyPost_ret (msg_results2 Try.results18 _ m rfl X6.out) rfl ?_
    show NTurn _ _ _ _ _ (.returned (.tuple #[Nt.val m, .bool true])) _
    refine NtMid.turn (c := c) (s := ⟨room, Nt.cutL l q, sent, lost⟩) (V := .slice (some ⟨g, 0, none⟩) N k) ?_ OK2.out HG.out
    show NtMid _ _ _ _ _ _ _ _ (room - (Nt.cutL l q).length) _ _ _
    rw [← LN.out, RM.out.1]
    exact M6.out
  · have E : Hid (Nt.takeS s at_ = s ∧ Nt.takeM s at_ = Nt.zero ∧ Nt.takeB s = false) := by
      show _ ∧ _
      unfold Nt.takeS Nt.takeM Nt.takeB
      rw [if_neg hl, if_neg hl]
      exact ⟨rfl, rfl, decide_eq_false hl⟩
    rw [E.out.1, E.out.2.1, E.out.2.2]
    have hnil : s.l = [] := List.eq_nil_of_length_eq_zero (by omega)
    have HA := h.ask
    rw [hnil] at HA
    refine (ntake_nil w _ at_ s.sent s.lost HA).mono fun e w' hp => ?_
    exact ⟨G, hp.1, h.on hp.2, fun i hi => .inl hi, Kept.of_below hp.2⟩
/-- What a Drop leaves. -/
theorem ndrop_nil (w : World) (p : Option Addr) (at_ se lo : Int) (h : NAsk w p [] se lo) : Calls Try.prog 20 #[.pointer p, .int .i64 at_] w (NPos w (.bool false)) := by
  have CT := Lib.hid (ntake_nil w p at_ se lo h)
  clear h
  go_enter Try.func20, Try.ntmps20
  go_wp2_with (go_at_call 18; (with_reducible refine CT.out.mono ?_); rintro e w2 ⟨rfl, hb⟩; have B2 := Lib.hid (hb.trans (((Below.refl w2.heap.size w2).alloc (Nat.le_refl _) (.cells (Nt.cs Nt.zero) 32)).mono hb.size)); clear hb)
  go_ret
  exact ⟨rfl, B2.out⟩
set_option maxHeartbeats 3200000 in
theorem ndrop_any (w : World) (G : Nat → Prop) (r : Nat) (s : Nt.St) (at_ : Int) (h : NP w G r s) (ha : Nt.i64 at_) (hlo : 0 ≤ s.lost ∧ s.lost ≤ 1000000) : Calls Try.prog 20 #[.pointer (some ⟨r, 0, none⟩), .int .i64 at_] w (NTurn G r (Nt.dropS s at_) (.bool (Nt.takeB s)) w) := by
  have hok := h.ok
  have CT := Lib.hid (ntake_any w G r s at_ h ha)
  unfold TakePost at CT
  by_cases hl : 0 < s.l.length
  · have E : Hid (Nt.takeS s at_ = ⟨s.room, Nt.cutL s.l (Nt.pl s.l.length at_), s.sent, s.lost⟩ ∧ Nt.takeB s = true ∧ Nt.dropS s at_ = ⟨s.room, Nt.cutL s.l (Nt.pl s.l.length at_), s.sent, s.lost + 1⟩) := by
      show _ ∧ _ ∧ _
      unfold Nt.takeS Nt.takeB Nt.dropS
      rw [if_pos hl, if_pos hl]
      exact ⟨rfl, decide_eq_true hl, rfl⟩
    have OK2 := Lib.hid (Nt.drop_ok hok at_)
    rw [E.out.2.2] at OK2 ⊢
    rw [E.out.1, E.out.2.1] at CT
    rw [E.out.2.1]
    have HG := Lib.hid h.lt
    have hlw : wrap64 (s.lost + 1) = s.lost + 1 := IntWalk.wrap64_in _ ⟨by omega, by omega⟩
    clear h hok E hl
    generalize Nt.takeM s at_ = m at *
    generalize Nt.cutL s.l (Nt.pl s.l.length at_) = l2 at *
    obtain ⟨room, l, sent, lost⟩ := s
    simp only at *
    go_enter Try.func20, Try.ntmps20
    go_upto_region 2 with (go_at_call 18; (with_reducible refine CT.out.mono ?_); rintro e w2 ⟨G2, rfl, hn2, hg2, hk2⟩; have N2 := Lib.hid hn2; have HG2 := Lib.hid hg2; have K2 := Lib.hid hk2; clear hn2 hg2 hk2)
    have hb3 : Below w2.heap.size w2 (w2.alloc (.cells (Nt.cs m) 32)) := (Below.refl _ _).alloc (Nat.le_refl _) _
    have N3 := Lib.hid (N2.out.on hb3)
    have K3 := Lib.hid (K2.out.trans (Kept.of_below (F := G) hb3) fun _ _ h => h)
    clear hb3 N2 K2
    generalize w2.alloc (.cells (Nt.cs m) 32) = w3 at *
    have L3 := Lib.hid N3.out.lt
    obtain ⟨c3, V3, hm3, _⟩ := N3.out
    have M4 := Lib.hid (hm3.lost (lost + 1))
    have x3 := hm3.cells.c3
    have xf := hm3.cells.fz
    have xl := hm3.cells.lt
    clear hm3
    go_wp2_with fail
    go_ret
    show NTurn _ _ _ _ _ (.returned (.bool true)) _
    exact nturn_then K3.out HG2.out (NtMid.turn (c := c3) (V := V3) (s := ⟨room, l2, sent, lost + 1⟩) M4.out OK2.out L3.out)
  · have E : Hid (Nt.dropS s at_ = s ∧ Nt.takeB s = false) := by
      show _ ∧ _
      unfold Nt.dropS Nt.takeB
      rw [if_neg hl]
      exact ⟨rfl, decide_eq_false hl⟩
    rw [E.out.1, E.out.2]
    have hnil : s.l = [] := List.eq_nil_of_length_eq_zero (by omega)
    have HA := h.ask
    rw [hnil] at HA
    refine (ndrop_nil w _ at_ s.sent s.lost HA).mono fun e w' hp => ?_
    exact ⟨G, hp.1, h.on hp.2, fun i hi => .inl hi, Kept.of_below hp.2⟩
end Go.Proofs.Ytmhhjipdbfepiaa
