import Derived.Test.YtnacjhnfkkddcaaGreatDoorQp11
set_option maxHeartbeats 6400000
set_option maxRecDepth 100000
set_option linter.unusedSimpArgs false
set_option linter.unusedVariables false
namespace Go.Proofs.YtnacjhnfkkddcaaGreatDoor
open Go.RowKit
def jej : Value → Bool
 | .string _ => false
 | _ => true
structure jhq (L V H : Value) : Prop where
 l : jej L = true
 v : jej V = true
 h : jej H = true
theorem jbc : jhq (.slice none 0 0) (.slice none 0 0) (.slice none 0 0) := ⟨rfl, rfl, rfl⟩
theorem BkRd.flat {w : World} {s : Bk.St} {L V H : Value} (h : BkRd w s L V H) : jhq L V H := by
 obtain ⟨⟨A1, c1, rfl, _⟩, ⟨A2, c2, rfl, _⟩, ⟨A3, c3, rfl, _⟩⟩ := h
 exact ⟨rfl, rfl, rfl⟩
theorem jnk (s : Bk.St) {L V H : Value} (h : jhq L V H) : (Bk.cells s L V H).all jej = true := by
 obtain ⟨h1, h2, h3⟩ := h
 simp [Bk.cells, h1, h2, h3]
 simp [jej]
theorem ji5 {w : World} {g : Nat} {cs : Array Value} {t : TypeId} {fr : Nat × Nat} (h : w.heap[g]? = some (.cells cs t fr)) (hs : cs.all jej = true) (i : Nat) (x : ByteArray) : w.cell? ⟨g, i, none⟩ ≠ some (.string x) := by
 intro e
 rw [cell_of_row w g i _ _ _ h] at e
 obtain ⟨hi, he⟩ := Array.getElem?_eq_some_iff.1 e
 have := (Array.all_eq_true.1 hs) i hi
 rw [he] at this
 cases this
section
variable {w w' : World} {g : Nat} {A : Option Addr} {n c : Nat}
theorem SlF.apart {T : Type} {enc : T → List Value} {ts : List T} (h : SlF enc w A n c ts) {k : Nat} (hs : ∀ t, ∃ x, (enc t)[k]? = some (.string x)) {cs : Array Value} {t : TypeId} {fr : Nat × Nat} (hg : w.heap[g]? = some (.cells cs t fr)) (hn : cs.all jej = true) {b o : Nat} (he : A = some ⟨b, o, none⟩) (hl : 0 < ts.length) : b ≠ g := by
 rintro rfl
 obtain ⟨b', o', h1, h2, h3⟩ := h.rd hl
 rw [he] at h1; injection h1 with h1; injection h1 with h1 h1'; subst h1 h1'
 obtain ⟨y, l, rfl⟩ : ∃ y l, ts = y :: l := by
  cases ts with
  | nil => simp at hl
  | cons y l => exact ⟨y, l, rfl⟩
 obtain ⟨x, hx⟩ := hs y
 have hk := (List.getElem?_eq_some_iff.1 hx).1
 exact ji5 hg hn _ x (h3 k _ (by rw [List.flatMap_cons, List.getElem?_append_left hk]; exact hx))
theorem leC_str (l : Le) : ∃ x, (Bk.leC l)[0]? = some (.string x) := ⟨_, rfl⟩
theorem vnC_str (l : Bk.Vn) : ∃ x, (Bk.vnC l)[1]? = some (.string x) := ⟨_, rfl⟩
theorem rcC_str (l : Rc.R) : ∃ x, (Bk.rcC l)[5]? = some (.string x) := ⟨_, rfl⟩
variable {s s2 : Bk.St} {L V H L2 V2 H2 : Value}
theorem BkRd.past (h : BkRd w s L V H) (hg : BkAt w g s2 L2 V2 H2) (hf : jhq L2 V2 H2) (hs : w.heap.size ≤ w'.heap.size) (hk : ∀ b, b < w.heap.size → b ≠ g → w'.heap[b]? = w.heap[b]?) : BkRd w' s L V H := by
 obtain ⟨⟨A1, c1, e1, h1⟩, ⟨A2, c2, e2, h2⟩, ⟨A3, c3, e3, h3⟩⟩ := h
 have hn := jnk s2 hf
 refine ⟨⟨A1, c1, e1, h1.keep hs fun b o e hl => ?_⟩, ⟨A2, c2, e2, h2.keep hs fun b o e hl => ?_⟩, ⟨A3, c3, e3, h3.keep hs fun b o e hl => ?_⟩⟩
 ·obtain ⟨b', o', e', hb, _⟩ := h1.rd hl
  rw [e] at e'; injection e' with e'; injection e' with e' _; subst e'
  exact hk b hb (h1.apart leC_str hg.row hn e hl)
 ·obtain ⟨b', o', e', hb, _⟩ := h2.rd hl
  rw [e] at e'; injection e' with e'; injection e' with e' _; subst e'
  exact hk b hb (h2.apart vnC_str hg.row hn e hl)
 ·obtain ⟨b', o', e', hb, _⟩ := h3.rd hl
  rw [e] at e'; injection e' with e'; injection e' with e' _; subst e'
  exact hk b hb (h3.apart rcC_str hg.row hn e hl)
theorem BkRd.setRow (h : BkRd w s L V H) (hg : BkAt w g s2 L2 V2 H2) (hf : jhq L2 V2 H2) (cs : Array Value) : BkRd (w.setRow g cs) s L V H :=
 h.past hg hf (by rw [jap]; exact Nat.le_refl _) fun b _ hne => jao _ _ (fun e => hne e.symm)
theorem BkRd.re (h : BkRd w s L V H) (h1 : Bk.tl s2 = Bk.tl s) (h2 : s2.vs = s.vs) (h3 : s2.h = s.h) : BkRd w s2 L V H := by
 obtain ⟨⟨A1, c1, e1, k1⟩, ⟨A2, c2, e2, k2⟩, ⟨A3, c3, e3, k3⟩⟩ := h
 refine ⟨⟨A1, c1, by rw [h1]; exact e1, by rw [h1]; exact k1⟩, ⟨A2, c2, by rw [h2]; exact e2, by rw [h2]; exact k2⟩, ⟨A3, c3, by rw [h3]; exact e3, by rw [h3]; exact k3⟩⟩
end
structure Only (n : Nat) (w w' : World) : Prop where
 os : w'.os = w.os
 tape : w'.tape = w.tape
 output : w'.output = w.output
 size : w'.heap.size = w.heap.size
 block : ∀ b, b ≠ n → w'.heap[b]? = w.heap[b]?
section
variable {w w' : World} {n g : Nat}
theorem Only.refl (n : Nat) (w : World) : Only n w w := ⟨rfl, rfl, rfl, rfl, fun _ _ => rfl⟩
theorem Only.set (h : Only n w w') (k : Nat) (v : Value) : Only n w (w'.setCell ⟨n, k, none⟩ v) := ⟨h.os, h.tape, h.output, by simp [h.size], fun b hb => (Below.heap_setCell _ _ _ _ hb).trans (h.block b hb)⟩
theorem Only.row (h : Only n w w') (cs : Array Value) : Only n w (w'.setRow n cs) := ⟨h.os, h.tape, h.output, by rw [jap, h.size], fun b hb => (jao _ _ (fun e => hb e.symm)).trans (h.block b hb)⟩
theorem Only.puts (h : Only n w w') (t : Spc.Sp) : Only n w (jc2 w' n t) := ((((((((((((h.set _ _).set _ _).set _ _).set _ _).set _ _).set _ _).set _ _).set _ _).set _ _).set _ _).set _ _).set _ _)
theorem Only.below {w0 : World} {B : Nat} (h : Only n w w') (hb : Below B w0 w) (hB : B ≤ n) : Below B w0 w' := ⟨h.os.trans hb.os, h.tape.trans hb.tape, h.output.trans hb.output, by rw [h.size]; exact hb.size, fun b hlt => (h.block b (by omega)).trans (hb.block b hlt)⟩
theorem Only.bk {s : Bk.St} {L V H : Value} (h : Only n w w') (hg : BkAt w g s L V H) (hne : g ≠ n) : BkAt w' g s L V H := hg.keep (h.block g hne)
theorem Only.rc {r : Rc.R} (h : Only n w w') (hg : RcAt w g r) (hne : g ≠ n) : RcAt w' g r := ⟨(h.block g hne).trans hg.row⟩
theorem Only.rd {s s2 : Bk.St} {L V H L2 V2 H2 : Value} (h : Only n w w') (hr : BkRd w s L V H) (hg : BkAt w n s2 L2 V2 H2) (hf : jhq L2 V2 H2) : BkRd w' s L V H := hr.past hg hf (by rw [h.size]; exact Nat.le_refl _) fun b _ hb => h.block b hb
end
def ji6 (W : World) (X X2 : Value) : Prop := X2 = X ∨ ∀ A n c b o, X2 = .slice A n c → A = some ⟨b, o, none⟩ → 0 < n → W.heap.size ≤ b
theorem jd7 {W : World} {X : Value} {A : Option Addr} {n c : Nat} (h : ∀ b o, A = some ⟨b, o, none⟩ → 0 < n → W.heap.size ≤ b) : ji6 W X (.slice A n c) := .inr fun A2 n2 c2 b o e1 e2 hp => by
 injection e1 with e3 e4 e5
 subst e3 e4 e5
 exact h b o e2 hp
def jfa (W : World) (L V H L2 V2 H2 : Value) : Prop := ji6 W L L2 ∧ ji6 W V V2 ∧ ji6 W H H2
theorem jds {W W1 : World} {X X2 : Value} (h : ji6 W1 X X2) (hs : W.heap.size ≤ W1.heap.size) : ji6 W X X2 := by
 rcases h with h | h
 ·exact .inl h
 ·exact .inr fun A n c b o e1 e2 hp => Nat.le_trans hs (h A n c b o e1 e2 hp)
theorem jgd {W W1 : World} {L V H L2 V2 H2 : Value} (h : jfa W1 L V H L2 V2 H2) (hs : W.heap.size ≤ W1.heap.size) : jfa W L V H L2 V2 H2 := ⟨jds h.1 hs, jds h.2.1 hs, jds h.2.2 hs⟩
def jek (L V H : Value) (W : World) (s : Bk.St) (e : Ending) (w' : World) : Prop := ∃ L2 V2 H2, e = .returned (.agg (Bk.cells s L2 V2 H2)) ∧ BkRd w' s L2 V2 H2 ∧ Below W.heap.size W w' ∧ jfa W L V H L2 V2 H2
def jb0 (L V H : Value) (W : World) (s : Bk.St) (x : Value) (e : Ending) (w' : World) : Prop := ∃ L2 V2 H2, e = .returned (.tuple #[.agg (Bk.cells s L2 V2 H2), x]) ∧ BkRd w' s L2 V2 H2 ∧ Below W.heap.size W w' ∧ jfa W L V H L2 V2 H2
theorem setU_at (us : Nat → Bk.Un) (k : Nat) (u : Bk.Un) : Bk.setU us k u k = u := by unfold Bk.setU; rw [if_pos rfl]
theorem jkr (us : Nat → Bk.Un) (k : Nat) (u v : Bk.Un) : Bk.setU (Bk.setU us k u) k v = Bk.setU us k v := by
 funext i
 unfold Bk.setU
 by_cases h : i = k
 ·rw [if_pos h, if_pos h]
 ·rw [if_neg h, if_neg h, if_neg h]
theorem jnl (s : Bk.St) (ok : Bk.Ok s) (r : Rc.R) (hin : Rc.In r) (L V H : Value) (w : World) (h : BkRd w s L V H) (hc : Bk.chk s r ≠ 0) : Calls Tryz.prog 33 #[.agg (Bk.cells s L V H), .agg (Rc.cells r)] w (jb0 L V H w (Bk.app s r) (.int .i64 (Bk.chk s r))) := by
 have CC : Hid (∀ W, BkRd W s L V H → Calls Tryz.prog 55 #[.agg (Bk.cells s L V H), .agg (Rc.cells r)] W (jbb W (.int .i64 (Bk.chk s r)))) := fun W h => jbk s ok r hin L V H W h
 have hz := ja9
 rw [Bk.app_no hc]
 have q1 : (Bk.chk s r != 0) = true := by rw [bne_iff_ne]; exact hc
 generalize Bk.chk s r = cx at *
 have RD1 := zh h.one
 clear hc ok
 obtain ⟨W, hW⟩ : ∃ W, W = ((w.alloc (.cells (Bk.cells s L V H) 40)).alloc (.cells (Rc.cells r) 53)).alloc (.cells Bk.zeros 40) := ⟨_, rfl⟩
 obtain ⟨r1, r2, r3, hb, hs⟩ := jal hW
 have BX := zh (BkRc.mk ⟨r1⟩ ⟨r2⟩ (h.on hb) hb (Nat.le_refl _))
 go_enter Tryz.func33, Tryz.ntmps33
 go_upto_region 1 with fail
 rw [← hW]
 clear hW hz
 obtain ⟨n, hn⟩ : ∃ n, n = w.heap.size := ⟨_, rfl⟩
 rw [← hn] at BX r3 ⊢
 have X3 : Hid (BkAt W (n + 1 + 1) Bk.none_ (.slice none 0 0) (.slice none 0 0) (.slice none 0 0)) := ⟨r3⟩
 have NB := zh (Nat.le_of_eq hn.symm)
 clear r1 r2 r3 hs hb h hin hn
 have bf := BX.out.bk.fz; have k1 := BX.out.rc.cs.lt; have k0 := BX.out.bk.lt
 go_wp2_with (first
  | ((with_reducible show zL 9); refine jaa rfl (.tmp 2) rfl rfl BX.out.bk ?_)
  | ((with_reducible show zL 10); refine zR (.tmp 3) BX.out.rc ?_)
  | ((with_reducible show zL 14); refine jaa rfl (.tmp 2) rfl rfl BX.out.bk ?_)
  | (go_at_call 55; (with_reducible refine (CC.out _ BX.out.rd).mono ?_); rintro e wc ⟨rfl, hb⟩; have BX := zh (BX.out.on hb); have X3 := zh (X3.out.on hb); clear hb bf k0 k1; have bf := BX.out.bk.fz; have k1 := BX.out.rc.cs.lt; have k0 := BX.out.bk.lt)
  | ((with_reducible show zW); refine jab rfl (.tmp 4) (.tmp 14) rfl rfl rfl X3.out RD1.out ?_))
 exact bodyPost_ret (jaz Tryz.results33 _ rfl (X3.out.setRow _ _ _ _)) rfl ⟨L, V, H, rfl, BX.out.rd.setRow X3.out jbc _, below_setRow BX.out.below (by have := NB.out; omega) _, .inl rfl, .inl rfl, .inl rfl⟩
theorem jks (s : Bk.St) (ok : Bk.Ok s) (r : Rc.R) (hin : Rc.In r) (L V H : Value) (w : World) (h : BkRd w s L V H) (hc : Bk.chk s r = 0) (hk : r.kind = 6) : Calls Tryz.prog 33 #[.agg (Bk.cells s L V H), .agg (Rc.cells r)] w (jb0 L V H w (Bk.app s r) (.int .i64 (Bk.chk s r))) := by
 have CC : Hid (∀ W, BkRd W s L V H → Calls Tryz.prog 55 #[.agg (Bk.cells s L V H), .agg (Rc.cells r)] W (jbb W (.int .i64 (Bk.chk s r)))) := fun W h => jbk s ok r hin L V H W h
 have hz := ja9
 rw [Bk.app_ok hc, hc, Bk.act6 hk]
 have HK := zh hk
 have hr := Bk.chk_right hc
 rw [hc] at CC
 obtain ⟨i1, i2⟩ := Rc.right6 hk hr
 obtain ⟨k, hkk⟩ := Int.eq_ofNat_of_zero_le i1.1
 have EK := zh hkk
 have HKK : Hid (k < 16) := by show k < 16; omega
 have k16 : (k : Int) < 16 := by omega
 rw [hkk, show ((k : Int)).toNat = k from rfl]
 clear ok hr hk hc i1 i2 hkk
 obtain ⟨W, hW⟩ : ∃ W, W = ((w.alloc (.cells (Bk.cells s L V H) 40)).alloc (.cells (Rc.cells r) 53)).alloc (.cells Bk.zeros 40) := ⟨_, rfl⟩
 obtain ⟨r1, r2, r3, hb, hs⟩ := jal hW
 have BX := zh (BkRc.mk ⟨r1⟩ ⟨r2⟩ (h.on hb) hb (Nat.le_refl _))
 go_enter Tryz.func33, Tryz.ntmps33
 go_upto_region 1 with fail
 rw [← hW]
 clear hW hz
 obtain ⟨n, hn⟩ : ∃ n, n = w.heap.size := ⟨_, rfl⟩
 rw [← hn] at BX r3 ⊢
 have X3 : Hid (BkAt W (n + 1 + 1) Bk.none_ (.slice none 0 0) (.slice none 0 0) (.slice none 0 0)) := ⟨r3⟩
 have NB := zh (Nat.le_of_eq hn.symm)
 clear r1 r2 r3 hs hb h hin hn
 have c0 := BX.out.rc.cs.c0; have c2 := BX.out.rc.cs.c2; rw [HK.out] at c0; have bf := BX.out.bk.fz; have k1 := BX.out.rc.cs.lt; have k0 := BX.out.bk.lt
 go_upto_region 30 with (first
  | ((with_reducible show zL 9); refine jaa rfl (.tmp 2) rfl rfl BX.out.bk ?_)
  | ((with_reducible show zL 10); refine zR (.tmp 3) BX.out.rc ?_)
  | (go_at_call 55; (with_reducible refine (CC.out _ BX.out.rd).mono ?_); rintro e wc ⟨rfl, hb⟩; have BX := zh (BX.out.on hb); have X3 := zh (X3.out.on hb); clear hb c0 c2 bf k0 k1; have c0 := BX.out.rc.cs.c0; have c2 := BX.out.rc.cs.c2; rw [HK.out] at c0; have bf := BX.out.bk.fz; have k1 := BX.out.rc.cs.lt; have k0 := BX.out.bk.lt))
 have u := BX.out.bk.unit HKK.out
 obtain ⟨u0, u1, u2⟩ := u
 rw [EK.out] at c2
 generalize hwq : wc = wq at *
 clear hwq
 have BQ := zh BX.out.below
 go_upto_region 35 with fail
 have hX : BkAt ((wq.setCell ⟨n, 25 + k * 3 + 2, none⟩ (.bool true))) n ({ s with us := Bk.setU s.us k { s.us k with d := true } }) L V H := BX.out.bk.unitD HKK.out true
 have hO : Only n wq ((wq.setCell ⟨n, 25 + k * 3 + 2, none⟩ (.bool true))) := (Only.refl n wq).set _ _
 have hX3 : BkAt ((wq.setCell ⟨n, 25 + k * 3 + 2, none⟩ (.bool true))) (n + 1 + 1) Bk.none_ (.slice none 0 0) (.slice none 0 0) (.slice none 0 0) := hO.bk X3.out (by omega)
 have hRD : BkRd ((wq.setCell ⟨n, 25 + k * 3 + 2, none⟩ (.bool true))) ({ s with us := Bk.setU s.us k { s.us k with d := true } }) L V H := (hO.rd BX.out.rd BX.out.bk BX.out.rd.flat).re rfl rfl rfl
 have hBB : Below w.heap.size w ((wq.setCell ⟨n, 25 + k * 3 + 2, none⟩ (.bool true))) := hO.below BQ.out NB.out
 generalize ((wq.setCell ⟨n, 25 + k * 3 + 2, none⟩ (.bool true))) = wf at *
 have XF := zh hX
 have XF3 := zh hX3
 have RDF := zh hRD
 have BF := zh hBB
 clear hX hX3 hRD hBB hO
 go_wp2_with (first
  | ((with_reducible show zL 115); refine jaa rfl (.tmp 2) rfl rfl XF.out ?_)
  | ((with_reducible show zW); refine jab rfl (.tmp 4) (.tmp 115) rfl rfl rfl XF3.out RDF.out.one ?_))
 exact bodyPost_ret (jaz Tryz.results33 _ rfl (XF3.out.setRow _ _ _ _)) rfl ⟨L, V, H, rfl, RDF.out.setRow XF3.out jbc _, below_setRow BF.out (by have := NB.out; omega) _, .inl rfl, .inl rfl, .inl rfl⟩
theorem ji7 (s : Bk.St) (ok : Bk.Ok s) (r : Rc.R) (hin : Rc.In r) (L V H : Value) (w : World) (h : BkRd w s L V H) (hc : Bk.chk s r = 0) (hk : r.kind = 5) : Calls Tryz.prog 33 #[.agg (Bk.cells s L V H), .agg (Rc.cells r)] w (jb0 L V H w (Bk.app s r) (.int .i64 (Bk.chk s r))) := by
 have CC : Hid (∀ W, BkRd W s L V H → Calls Tryz.prog 55 #[.agg (Bk.cells s L V H), .agg (Rc.cells r)] W (jbb W (.int .i64 (Bk.chk s r)))) := fun W h => jbk s ok r hin L V H W h
 have hz := ja9
 rw [Bk.app_ok hc, hc, Bk.act5 hk]
 have HK := zh hk
 have hr := Bk.chk_right hc
 rw [hc] at CC
 obtain ⟨i1, i2, i3⟩ := Rc.right5 hk hr
 obtain ⟨k, hkk⟩ := Int.eq_ofNat_of_zero_le i1.1
 have EK := zh hkk
 have HKK : Hid (k < 16) := by show k < 16; omega
 have k16 : (k : Int) < 16 := by omega
 rw [hkk, show ((k : Int)).toNat = k from rfl]
 clear ok hr hk hc i1 i2 i3 hkk
 obtain ⟨W, hW⟩ : ∃ W, W = ((w.alloc (.cells (Bk.cells s L V H) 40)).alloc (.cells (Rc.cells r) 53)).alloc (.cells Bk.zeros 40) := ⟨_, rfl⟩
 obtain ⟨r1, r2, r3, hb, hs⟩ := jal hW
 have BX := zh (BkRc.mk ⟨r1⟩ ⟨r2⟩ (h.on hb) hb (Nat.le_refl _))
 go_enter Tryz.func33, Tryz.ntmps33
 go_upto_region 1 with fail
 rw [← hW]
 clear hW hz
 obtain ⟨n, hn⟩ : ∃ n, n = w.heap.size := ⟨_, rfl⟩
 rw [← hn] at BX r3 ⊢
 have X3 : Hid (BkAt W (n + 1 + 1) Bk.none_ (.slice none 0 0) (.slice none 0 0) (.slice none 0 0)) := ⟨r3⟩
 have NB := zh (Nat.le_of_eq hn.symm)
 clear r1 r2 r3 hs hb h hin hn
 have c0 := BX.out.rc.cs.c0; have c2 := BX.out.rc.cs.c2; have c3 := BX.out.rc.cs.c3; have c4 := BX.out.rc.cs.c4; rw [HK.out] at c0; have bf := BX.out.bk.fz; have k1 := BX.out.rc.cs.lt; have k0 := BX.out.bk.lt
 go_upto_region 27 with (first
  | ((with_reducible show zL 9); refine jaa rfl (.tmp 2) rfl rfl BX.out.bk ?_)
  | ((with_reducible show zL 10); refine zR (.tmp 3) BX.out.rc ?_)
  | (go_at_call 55; (with_reducible refine (CC.out _ BX.out.rd).mono ?_); rintro e wc ⟨rfl, hb⟩; have BX := zh (BX.out.on hb); have X3 := zh (X3.out.on hb); clear hb c0 c2 c3 c4 bf k0 k1; have c0 := BX.out.rc.cs.c0; have c2 := BX.out.rc.cs.c2; have c3 := BX.out.rc.cs.c3; have c4 := BX.out.rc.cs.c4; rw [HK.out] at c0; have bf := BX.out.bk.fz; have k1 := BX.out.rc.cs.lt; have k0 := BX.out.bk.lt))
 have u := BX.out.bk.unit HKK.out
 obtain ⟨u0, u1, u2⟩ := u
 rw [EK.out] at c2
 have b12 := BX.out.bk.cs.c12
 generalize hwq : wc = wq at *
 clear hwq
 have BQ := zh BX.out.below
 go_upto_region 35 with fail
 have hX : BkAt (((((wq.setCell ⟨n, 25 + k * 3, none⟩ (.int .i64 r.n)).setCell ⟨n, 25 + k * 3 + 1, none⟩ (.int .i64 r.seq)).setCell ⟨n, 25 + k * 3 + 2, none⟩ (.bool false)).setCell ⟨n, 12, none⟩ (.int .i64 r.seq))) n ({ s with us := Bk.setU s.us k ⟨r.n, r.seq, false⟩, seq := r.seq }) L V H := by
  have := ((((BX.out.bk.unitV HKK.out r.n).unitQ HKK.out r.seq).unitD HKK.out false).seq r.seq)
  simp only [jkr, setU_at] at this
  exact this
 have hO : Only n wq (((((wq.setCell ⟨n, 25 + k * 3, none⟩ (.int .i64 r.n)).setCell ⟨n, 25 + k * 3 + 1, none⟩ (.int .i64 r.seq)).setCell ⟨n, 25 + k * 3 + 2, none⟩ (.bool false)).setCell ⟨n, 12, none⟩ (.int .i64 r.seq))) := ((((Only.refl n wq).set _ _).set _ _).set _ _).set _ _
 have hX3 : BkAt (((((wq.setCell ⟨n, 25 + k * 3, none⟩ (.int .i64 r.n)).setCell ⟨n, 25 + k * 3 + 1, none⟩ (.int .i64 r.seq)).setCell ⟨n, 25 + k * 3 + 2, none⟩ (.bool false)).setCell ⟨n, 12, none⟩ (.int .i64 r.seq))) (n + 1 + 1) Bk.none_ (.slice none 0 0) (.slice none 0 0) (.slice none 0 0) := hO.bk X3.out (by omega)
 have hRD : BkRd (((((wq.setCell ⟨n, 25 + k * 3, none⟩ (.int .i64 r.n)).setCell ⟨n, 25 + k * 3 + 1, none⟩ (.int .i64 r.seq)).setCell ⟨n, 25 + k * 3 + 2, none⟩ (.bool false)).setCell ⟨n, 12, none⟩ (.int .i64 r.seq))) ({ s with us := Bk.setU s.us k ⟨r.n, r.seq, false⟩, seq := r.seq }) L V H := (hO.rd BX.out.rd BX.out.bk BX.out.rd.flat).re rfl rfl rfl
 have hBB : Below w.heap.size w (((((wq.setCell ⟨n, 25 + k * 3, none⟩ (.int .i64 r.n)).setCell ⟨n, 25 + k * 3 + 1, none⟩ (.int .i64 r.seq)).setCell ⟨n, 25 + k * 3 + 2, none⟩ (.bool false)).setCell ⟨n, 12, none⟩ (.int .i64 r.seq))) := hO.below BQ.out NB.out
 generalize (((((wq.setCell ⟨n, 25 + k * 3, none⟩ (.int .i64 r.n)).setCell ⟨n, 25 + k * 3 + 1, none⟩ (.int .i64 r.seq)).setCell ⟨n, 25 + k * 3 + 2, none⟩ (.bool false)).setCell ⟨n, 12, none⟩ (.int .i64 r.seq))) = wf at *
 have XF := zh hX
 have XF3 := zh hX3
 have RDF := zh hRD
 have BF := zh hBB
 clear hX hX3 hRD hBB hO
 go_wp2_with (first
  | ((with_reducible show zL 115); refine jaa rfl (.tmp 2) rfl rfl XF.out ?_)
  | ((with_reducible show zW); refine jab rfl (.tmp 4) (.tmp 115) rfl rfl rfl XF3.out RDF.out.one ?_))
 exact bodyPost_ret (jaz Tryz.results33 _ rfl (XF3.out.setRow _ _ _ _)) rfl ⟨L, V, H, rfl, RDF.out.setRow XF3.out jbc _, below_setRow BF.out (by have := NB.out; omega) _, .inl rfl, .inl rfl, .inl rfl⟩
theorem rcElem : ∀ W : World, (sizeOf (Tryz.prog.elem 22)).run Tryz.prog W = .ok 18 W := fun _ => by kernel_rfl
theorem jel (A : Option Addr) (n c k : Nat) (hk : k ≤ n) (W : World) :
  (Instr.slice 22 (.slice A n c) (some (.int .i64 (k : Int))) none none).run Tryz.prog W = .ok (.slice (if c = k then A else A.map fun x => x.add (k * 18)) (n - k) (c - k)) W := by
 rw [run_slice_l _ 22 A n c (by kernel_rfl) IntKind.i64 (k : Int) (by omega) (by omega), rcElem]
 simp [Result.andThen, sliced]
theorem jfq (k : Nat) : ∀ b o, (fun x : Addr => x.add k) ⟨b, o, none⟩ = ⟨b, o + k, none⟩ := by
 intro b o
 show Addr.add _ _ = _
 unfold Addr.add
 split <;> simp_all
theorem rbnote_any (s : Bk.St) (hl : s.h.length ≤ 24) (r : Rc.R) (L V H : Value) (w : World) (h : BkRd w s L V H) : Calls Tryz.prog 58 #[.agg (Bk.cells s L V H), .agg (Rc.cells r)] w (jkd w (Bk.note s r)) := by
 have hz := ja9
 obtain ⟨A, c, rfl, hh⟩ := h.h
 obtain ⟨W, hW⟩ : ∃ W, W = ((w.alloc (.cells (Bk.cells s L V (.slice A s.h.length c)) 40)).alloc (.cells (Rc.cells r) 53)).alloc (.cells Bk.zeros 40) := ⟨_, rfl⟩
 obtain ⟨r1, r2, r3, hb, hs⟩ := jal hW
 have RD := zh h
 have SH := zh (hh.on hb)
 clear h hh
 go_enter Tryz.func58, Tryz.ntmps58
 go_upto_region 2 with fail
 rw [← hW]
 clear hW hz
 obtain ⟨n, hn⟩ : ∃ n, n = w.heap.size := ⟨_, rfl⟩
 rw [← hn] at r1 r2 r3 hs ⊢
 have X1 : Hid (BkAt W n s L V (.slice A s.h.length c)) := ⟨r1⟩
 have X2 : Hid (RcAt W (n + 1) r) := ⟨r2⟩
 have X3 : Hid (BkAt W (n + 1 + 1) Bk.none_ (.slice none 0 0) (.slice none 0 0) (.slice none 0 0)) := ⟨r3⟩
 have NB := zh (Nat.le_of_eq hn.symm)
 have B := zh hb
 have HL := zh hl
 have X1z := zh X1.out.lt
 have X3z := zh X3.out.lt
 have h73 := X1.out.cs.c73
 have hov : OwF Bk.rcC 18 53 W W.heap.size (.slice none 0 0) [] := OwF.none_ _ _ _
 generalize Value.slice none 0 0 = v0 at hov ⊢
 have OV := zh hov
 clear hn r1 r2 r3 hs hb hov hl
 go_upto_region 4 with (first
  | ((with_reducible show zL 11); refine zR (.tmp 3) X2.out ?_)
  | ((with_reducible show zB 12); refine jag Tryz.underlying22 jak (by omega) (by omega) rfl (.tmp 11) rfl (Rc.cells r) rfl rfl ?_)
  | (at_builtin; refine jad Bk.rcC_len Bk.rcC_one Tryz.underlying22 jak rfl (by omega) rfl (.tmp 10) (.tmp 12) rfl W.heap.size v3 s.h rfl O3.out r rfl (by have := HL.out; unfold maxLen; omega) (by have := HL.out; omega) S3.out ?_; intro v4 w4 ho4 hb4 hg4 _; obtain ⟨A4, c4, rfl⟩ := ho4.form; have O4 := zh ho4; have X1 := zh (X1.out.keep (hb4.block _ K1.out)); have X3 := zh (X3.out.keep (hb4.block _ K3.out)); have B4 := zh (B3.out.trans (hb4.mono KB.out)); clear ho4 hb4 hg4)
  | (at_builtin; refine ja4 Bk.rcC_len Bk.rcC_one Tryz.underlying22 jak rfl (by omega) rfl (.tmp 6) (.tmp 8) rfl W.heap.size v0 [] s.h rfl OV.out rfl SH.out (by have := HL.out; unfold maxLen; simp; omega) (by have := HL.out; simp; omega) (Nat.le_refl _) ?_; intro v3 w3 ho3 hb3 hg3 _; have O3 := zh ho3; have X1 := zh (X1.out.on hb3); have X2 := zh (X2.out.on hb3); have X3 := zh (X3.out.on hb3); have B3 := zh (B.out.trans (hb3.mono B.out.size)); have S3 := zh hb3.size; have K1 := zh X1z.out; have K3 := zh X3z.out; have KB := zh B.out.size; clear h73 ho3 hb3 hg3))
 clear X1z OV O3 S3 K1 K3 KB X2 SH
 obtain ⟨N, hN⟩ : ∃ N, N = s.h.length + 1 := ⟨_, rfl⟩
 obtain ⟨k, hk⟩ : ∃ k, k = N - 24 := ⟨_, rfl⟩
 have HN : Hid (N = (s.h ++ [r]).length ∧ N ≤ 25 ∧ k = (s.h ++ [r]).length - 24 ∧ k ≤ N) := by
  show _ ∧ _ ∧ _ ∧ _
  have := HL.out
  rw [List.length_append, List.length_singleton]
  omega
 have hw1 : wrap64 ((N : Int) - 24) = (N : Int) - 24 := IntWalk.wrap64_in _ ⟨by omega, by have := HL.out; omega⟩
 have hmx : max ((N : Int) - 24) 0 = (k : Int) := by omega
 obtain ⟨A5, c5, hA5, hsl⟩ : ∃ A5 c5, (A5 = (if c4 = k then A4 else A4.map fun x => x.add (k * 18)) ∧ c5 = c4 - k) ∧ ∀ W, (Instr.slice 22 (.slice A4 N c4) (some (.int .i64 (k : Int))) none none).run Tryz.prog W = .ok (.slice A5 (N - k) c5) W := ⟨_, _, ⟨rfl, rfl⟩, jel A4 N c4 k HN.out.2.2.2⟩
 have O4 : Hid (OwF Bk.rcC 18 53 w4 W.heap.size (.slice A4 N c4) (s.h ++ [r])) := by
  show OwF _ _ _ _ _ _ _
  rw [hN]
  have := O4.out
  rw [List.length_append, List.length_singleton] at this
  exact this
 rw [← hN]
 clear hN hk
 have S5 : Hid (SlF Bk.rcC w4 A5 (N - k) c5 ((s.h ++ [r]).drop k)) := by
  show SlF _ _ _ _ _ _
  rw [hA5.1, hA5.2]
  exact O4.out.sl.drop Bk.rcC_len HN.out.2.2.2 (jfq (k * 18))
 have FAR : Hid (∀ b o, A5 = some ⟨b, o, none⟩ → 0 < N - k → n + 1 + 1 < b) := by
  intro b o e _
  have h3 := X3z.out
  rw [hA5.1] at e
  by_cases hc : c4 = k
  ·rw [if_pos hc] at e
   have := (O4.out.lt b (by rw [e]; rfl)).1
   omega
  ·rw [if_neg hc] at e
   cases hA : A4 with
   | none => rw [hA] at e; cases e
   | some x =>
    rw [hA, Option.map_some] at e
    injection e with e
    have h1 := (O4.out.lt x.block (by rw [hA]; rfl)).1
    have h2 : (x.add (k * 18)).block = x.block := by unfold Addr.add; split <;> rfl
    rw [e] at h2
    have h4 : b = x.block := h2
    omega
 have HA5 := zh hA5
 clear hA5
 have h73 := X1.out.cs.c73
 have f73 := X1.out.fz
 go_upto_region 5 with fail
 have hX : BkAt (w4.setCell ⟨n, 73, none⟩ (.slice A5 (N - k) c5)) n (Bk.note s r) L V (.slice A5 (N - k) c5) := X1.out.hsl _ _
 have hX3 : BkAt (w4.setCell ⟨n, 73, none⟩ (.slice A5 (N - k) c5)) (n + 1 + 1) Bk.none_ (.slice none 0 0) (.slice none 0 0) (.slice none 0 0) := X3.out.keep (Below.heap_setCell _ _ _ _ (by simp; omega))
 have hb5 : Below w.heap.size w (w4.setCell ⟨n, 73, none⟩ (.slice A5 (N - k) c5)) := B4.out.setCell NB.out _
 have hS5 : SlF Bk.rcC (w4.setCell ⟨n, 73, none⟩ (.slice A5 (N - k) c5)) A5 (N - k) c5 (Bk.note s r).h := by
  have h0 : (Bk.note s r).h = (s.h ++ [r]).drop k := by show Bk.last24 _ = _; unfold Bk.last24; rw [HN.out.2.2.1]
  rw [h0]
  refine S5.out.keep (by simp) fun b o e hl => Below.heap_setCell _ _ _ _ ?_
  have h1 := FAR.out b o e (by have := S5.out.len; omega)
  show b ≠ n
  omega
 have hN5 : N - k = (Bk.note s r).h.length := by have := hS5.len; exact this
 have hfar : ∀ b o, A5 = some ⟨b, o, none⟩ → 0 < N - k → b ≠ n + 1 + 1 := fun b o e hp => by have := FAR.out b o e hp; omega
 generalize w4.setCell ⟨n, 73, none⟩ (.slice A5 (N - k) c5) = w5 at *
 have X5 := zh hX
 have X35 := zh hX3
 have B5 := zh hb5
 have S6 := zh hS5
 have N5 := zh hN5
 have F5 := zh hfar
 clear hX hX3 hb5 hS5 hN5 hfar h73 f73 hw1 hmx hsl
 go_wp2_with (first
  | ((with_reducible show zL 21); refine jaa rfl (.tmp 2) rfl rfl X5.out ?_)
  | ((with_reducible show zW); refine jab rfl (.tmp 4) (.tmp 21) rfl rfl rfl X35.out (Bk.one_cell RD.out.one'.1 RD.out.one'.2.1 rfl) ?_))
 have hoff : ∀ b, b ≠ n + 1 + 1 → (w5.setRow (n + 1 + 1) (Bk.cells (Bk.note s r) L V (.slice A5 (N - k) c5))).heap[b]? = w5.heap[b]? := fun b hb => jao _ _ (fun e => hb e.symm)
 have hlow : Below w.heap.size w (w5.setRow (n + 1 + 1) (Bk.cells (Bk.note s r) L V (.slice A5 (N - k) c5))) := below_setRow B5.out (by have := NB.out; omega) _
 obtain ⟨h1, h2, h3⟩ := RD.out.on hlow
 refine bodyPost_ret (jbr Tryz.results58 _ rfl (X35.out.setRow _ _ _ _)) rfl ⟨L, V, .slice A5 (N - k) c5, rfl, ⟨h1, h2, A5, c5, by rw [← N5.out], ?_⟩, hlow⟩
 rw [← N5.out]
 exact S6.out.keep (by rw [jap]; exact Nat.le_refl _) fun b o e hl => hoff b (F5.out b o e (by have := S6.out.len; omega))
structure jfr (w0 W0 W : World) (n : Nat) (s : Bk.St) (L V H : Value) (v : Bk.Vn) : Prop where
 bk : BkAt W n s L V H
 c0 : W.cell? ⟨n + 1, 0, none⟩ = some (.int .i64 v.n)
 c1 : W.cell? ⟨n + 1, 1, none⟩ = some (.string v.t)
 out : BkAt W (n + 1 + 1) Bk.none_ (.slice none 0 0) (.slice none 0 0) (.slice none 0 0)
 below : Below W0.heap.size W0 W
 size : n + 1 + 1 < W0.heap.size
 low : Below w0.heap.size w0 W0
theorem jfr.step {w0 W0 W W' : World} {n : Nat} {s : Bk.St} {L V H : Value} {v : Bk.Vn} (h : jfr w0 W0 W n s L V H v) (hb : Below W0.heap.size W W') : jfr w0 W0 W' n s L V H v := by
 have h1 := h.size
 exact ⟨h.bk.keep (hb.block n (by omega)), (hb.cell (p := ⟨n + 1, 0, none⟩) (by show n + 1 < _; omega)).trans h.c0, (hb.cell (p := ⟨n + 1, 1, none⟩) (by show n + 1 < _; omega)).trans h.c1, h.out.keep (hb.block (n + 1 + 1) h1), h.below.trans hb, h1, h.low⟩
theorem jfr.all {w0 W0 W : World} {n : Nat} {s : Bk.St} {L V H : Value} {v : Bk.Vn} (h : jfr w0 W0 W n s L V H v) : Below w0.heap.size w0 W := h.low.trans (h.below.mono h.low.size)
theorem rbpub_any (s : Bk.St) (hl : s.vs.length ≤ 64) (v : Bk.Vn) (L V H : Value) (w : World) (h : BkRd w s L V H) : Calls Tryz.prog 57 #[.agg (Bk.cells s L V H), .agg #[.int .i64 v.n, .string v.t]] w (jkd w { s with vs := Bk.pub s.vs v }) := by
 have hz := ja9
 obtain ⟨A, c, rfl, hh⟩ := h.v
 obtain ⟨W, hW⟩ : ∃ W, W = ((w.alloc (.cells (Bk.cells s L (.slice A s.vs.length c) H) 40)).alloc (.cells #[.int .i64 v.n, .string v.t] 72)).alloc (.cells Bk.zeros 40) := ⟨_, rfl⟩
 obtain ⟨r1, r2, r3, hb, hs⟩ := jal hW
 have RD := zh h
 have SV := zh (hh.on hb)
 have HL := zh hl
 have hcap := hh.cap
 clear h hh
 go_enter Tryz.func57, Tryz.ntmps57
 go_upto_region 2 with fail
 rw [← hW]
 clear hW hz
 obtain ⟨n, hn⟩ : ∃ n, n = w.heap.size := ⟨_, rfl⟩
 rw [← hn] at r1 r2 r3 hs ⊢
 have PA : Hid (jfr w W W n s L (.slice A s.vs.length c) H v) := ⟨⟨r1⟩, cell_of_row _ _ 0 _ _ _ r2, cell_of_row _ _ 1 _ _ _ r2, ⟨r3⟩, Below.refl _ _, by omega, hb⟩
 have NB := zh (Nat.le_of_eq hn.symm)
 have hov : OwF Bk.vnC 2 72 W W.heap.size (.slice none 0 0) [] := OwF.none_ _ _ _
 generalize Value.slice none 0 0 = v0 at hov ⊢
 have OV := zh hov
 clear hn r1 r2 r3 hs hb hov hl
 go_wp2_with fail
 go_loopw [5, 6, 7] (fun u d i wr => ∃ (j : Nat) (l : List Bk.Vn) (dn : Bool), j ≤ s.vs.length ∧ i = .int .i64 j ∧ d = .bool dn ∧ OwF Bk.vnC 2 72 wr W.heap.size u l ∧ Bk.Put s.vs v j l dn ∧ jfr w W wr n s L (.slice A s.vs.length c) H v) (fun _ _ i _ => s.vs.length - (intOf i).toNat)
 case atStart => exact ⟨0, [], false, by omega, rfl, rfl, OV.out, Bk.Put.start _ _, PA.out⟩
 case round =>
  obtain ⟨j, l, dn, hj, rfl, rfl, ho, hp, hq⟩ := hrel
  have O := zh ho
  have PU := zh hp
  have PX := zh hq
  have hl64 := HL.out
  clear ho hp hq PA OV
  have b2 := PX.out.bk.cs.c2
  have c0 := PX.out.c0
  have c1 := PX.out.c1
  by_cases hlt : j < s.vs.length
  ·have hx : s.vs[j]? = some (s.vs[j]'hlt) := List.getElem?_eq_getElem _
   generalize s.vs[j]'hlt = x at hx
   obtain ⟨b, o, rfl, hbl, hcell⟩ := (SV.out.on PX.out.below).at_ Bk.vnC_len hx
   have x0 : wr.cell? ⟨b, o + j * 2, none⟩ = some (.int .i64 x.n) := hcell 0 _ rfl
   have x1 : wr.cell? ⟨b, o + j * 2 + 1, none⟩ = some (.string x.t) := hcell 1 _ rfl
   have HX := zh hx
   have hbW : b < W.heap.size := by
    obtain ⟨b', o', he, hb', _⟩ := SV.out.rd (by omega)
    injection he with he; injection he with he _; omega
   have HBW := zh hbW
   clear hcell hx hbW
   have hll := PU.out.len
   cases dn with
   | false =>
    by_cases hvn : v.n < x.n
    ·have PN := zh (PU.out.first HX.out hvn)
     have hlj := PU.out.ln rfl
     go_wp2_with fail
     go_region
     obtain ⟨W1, hW1⟩ : ∃ W1, W1 = wr.drew := ⟨_, rfl⟩
     rw [← hW1]
     have hb1 : Below W.heap.size wr W1 := by rw [hW1]; exact (Below.refl _ _).drew
     have O := zh (show OwF Bk.vnC 2 72 W1 W.heap.size u5 l from by rw [hW1]; exact O.out)
     clear hW1
     have PX := zh (PX.out.step hb1)
     have y0 := (hb1.cell (p := ⟨b, o + j * 2, none⟩) HBW.out).trans x0
     have y1 := (hb1.cell (p := ⟨b, o + j * 2 + 1, none⟩) HBW.out).trans x1
     clear b2 c0 c1 x0 x1
     have x0 := y0
     have x1 := y1
     clear y0 y1
     have b2 := PX.out.bk.cs.c2
     have c0 := PX.out.c0
     have c1 := PX.out.c1
     clear hb1
     go_upto_region 9 with (at_builtin; refine jad Bk.vnC_len Bk.vnC_one Tryz.underlying32 jb6 rfl (by omega) rfl (.tmp 28) (.tmp 30) rfl W.heap.size u5 l rfl O.out v rfl (by skip; unfold maxLen; omega) (by skip; omega) PX.out.below.size ?_; intro v9 w9 ho9 hb9 hg9 _; have O := zh ho9; have PX := zh (PX.out.step hb9); have y0 := (hb9.cell (p := ⟨b, o + j * 2, none⟩) HBW.out).trans x0; have y1 := (hb9.cell (p := ⟨b, o + j * 2 + 1, none⟩) HBW.out).trans x1; clear b2 c0 c1 x0 x1; have x0 := y0; have x1 := y1; clear y0 y1; have b2 := PX.out.bk.cs.c2; have c0 := PX.out.c0; have c1 := PX.out.c1; clear ho9 hg9 hb9)
     go_wp2_with (at_builtin; refine jad Bk.vnC_len Bk.vnC_one Tryz.underlying32 jb6 rfl (by omega) rfl (.tmp 32) (.tmp 38) rfl W.heap.size _ (l ++ [v]) rfl O.out x rfl (by rw [List.length_append, List.length_singleton]; unfold maxLen; omega) (by rw [List.length_append, List.length_singleton]; omega) PX.out.below.size ?_; intro v9 w9 ho9 hb9 hg9 _; have O := zh ho9; have PX := zh (PX.out.step hb9); have y0 := (hb9.cell (p := ⟨b, o + j * 2, none⟩) HBW.out).trans x0; have y1 := (hb9.cell (p := ⟨b, o + j * 2 + 1, none⟩) HBW.out).trans x1; clear b2 c0 c1 x0 x1; have x0 := y0; have x1 := y1; clear y0 y1; have b2 := PX.out.bk.cs.c2; have c0 := PX.out.c0; have c1 := PX.out.c1; clear ho9 hg9 hb9)
     exact ⟨⟨j + 1, _, true, by omega, by go_num, rfl, O.out, PN.out, PX.out⟩, by simp [intOf]; omega⟩
    ·have PN := zh (PU.out.next HX.out (fun _ => hvn))
     go_wp2_with fail
     go_region
     obtain ⟨W1, hW1⟩ : ∃ W1, W1 = wr.drew := ⟨_, rfl⟩
     rw [← hW1]
     have hb1 : Below W.heap.size wr W1 := by rw [hW1]; exact (Below.refl _ _).drew
     have O := zh (show OwF Bk.vnC 2 72 W1 W.heap.size u5 l from by rw [hW1]; exact O.out)
     clear hW1
     have PX := zh (PX.out.step hb1)
     have y0 := (hb1.cell (p := ⟨b, o + j * 2, none⟩) HBW.out).trans x0
     have y1 := (hb1.cell (p := ⟨b, o + j * 2 + 1, none⟩) HBW.out).trans x1
     clear b2 c0 c1 x0 x1
     have x0 := y0
     have x1 := y1
     clear y0 y1
     have b2 := PX.out.bk.cs.c2
     have c0 := PX.out.c0
     have c1 := PX.out.c1
     clear hb1
     go_wp2_with (at_builtin; refine jad Bk.vnC_len Bk.vnC_one Tryz.underlying32 jb6 rfl (by omega) rfl (.tmp 32) (.tmp 38) rfl W.heap.size u5 l rfl O.out x rfl (by skip; unfold maxLen; omega) (by skip; omega) PX.out.below.size ?_; intro v9 w9 ho9 hb9 hg9 _; have O := zh ho9; have PX := zh (PX.out.step hb9); have y0 := (hb9.cell (p := ⟨b, o + j * 2, none⟩) HBW.out).trans x0; have y1 := (hb9.cell (p := ⟨b, o + j * 2 + 1, none⟩) HBW.out).trans x1; clear b2 c0 c1 x0 x1; have x0 := y0; have x1 := y1; clear y0 y1; have b2 := PX.out.bk.cs.c2; have c0 := PX.out.c0; have c1 := PX.out.c1; clear ho9 hg9 hb9)
     exact ⟨⟨j + 1, _, false, by omega, by go_num, rfl, O.out, PN.out, PX.out⟩, by simp [intOf]; omega⟩
   | true =>
    have PN := zh (PU.out.next HX.out (fun h => by cases h))
    go_wp2_with fail
    go_region
    obtain ⟨W1, hW1⟩ : ∃ W1, W1 = wr.drew := ⟨_, rfl⟩
    rw [← hW1]
    have hb1 : Below W.heap.size wr W1 := by rw [hW1]; exact (Below.refl _ _).drew
    have O := zh (show OwF Bk.vnC 2 72 W1 W.heap.size u5 l from by rw [hW1]; exact O.out)
    clear hW1
    have PX := zh (PX.out.step hb1)
    have y0 := (hb1.cell (p := ⟨b, o + j * 2, none⟩) HBW.out).trans x0
    have y1 := (hb1.cell (p := ⟨b, o + j * 2 + 1, none⟩) HBW.out).trans x1
    clear b2 c0 c1 x0 x1
    have x0 := y0
    have x1 := y1
    clear y0 y1
    have b2 := PX.out.bk.cs.c2
    have c0 := PX.out.c0
    have c1 := PX.out.c1
    clear hb1
    go_wp2_with (at_builtin; refine jad Bk.vnC_len Bk.vnC_one Tryz.underlying32 jb6 rfl (by omega) rfl (.tmp 32) (.tmp 38) rfl W.heap.size u5 l rfl O.out x rfl (by skip; unfold maxLen; omega) (by skip; omega) PX.out.below.size ?_; intro v9 w9 ho9 hb9 hg9 _; have O := zh ho9; have PX := zh (PX.out.step hb9); have y0 := (hb9.cell (p := ⟨b, o + j * 2, none⟩) HBW.out).trans x0; have y1 := (hb9.cell (p := ⟨b, o + j * 2 + 1, none⟩) HBW.out).trans x1; clear b2 c0 c1 x0 x1; have x0 := y0; have x1 := y1; clear y0 y1; have b2 := PX.out.bk.cs.c2; have c0 := PX.out.c0; have c1 := PX.out.c1; clear ho9 hg9 hb9)
    exact ⟨⟨j + 1, _, true, by omega, by go_num, rfl, O.out, PN.out, PX.out⟩, by simp [intOf]; omega⟩
  ·obtain rfl : j = s.vs.length := by omega
   have hll := PU.out.len
   cases dn with
   | false =>
    have PE := zh PU.out.last
    go_upto_region 12 with (at_builtin; refine jad Bk.vnC_len Bk.vnC_one Tryz.underlying32 jb6 rfl (by omega) rfl (.tmp 42) (.tmp 44) rfl W.heap.size u5 l rfl O.out v rfl (by unfold maxLen; omega) (by omega) PX.out.below.size ?_; intro v9 w9 ho9 hb9 hg9 _; have O := zh ho9; have PX := zh (PX.out.step hb9); clear b2 c0 c1; have b2 := PX.out.bk.cs.c2; have c0 := PX.out.c0; have c1 := PX.out.c1; clear ho9 hg9 hb9)
    rw [PE.out] at O
    obtain ⟨AF, cF, rfl⟩ := O.out.form
    have S5 := zh O.out.sl
    have FARF : Hid (∀ b o, AF = some ⟨b, o, none⟩ → n + 1 + 1 < b) := fun b o e => by have := (O.out.lt b (by rw [e]; rfl)).1; have := PX.out.size; omega
    have f2 := PX.out.bk.fz
    go_upto_region 13 with fail
    have hX : BkAt (w9.setCell ⟨n, 2, none⟩ (.slice AF (Bk.pub s.vs v).length cF)) n { s with vs := Bk.pub s.vs v } L (.slice AF (Bk.pub s.vs v).length cF) H := PX.out.bk.vsl _ _
    have hX3 : BkAt (w9.setCell ⟨n, 2, none⟩ (.slice AF (Bk.pub s.vs v).length cF)) (n + 1 + 1) Bk.none_ (.slice none 0 0) (.slice none 0 0) (.slice none 0 0) := PX.out.out.keep (Below.heap_setCell _ _ _ _ (by simp; omega))
    have hb5 : Below w.heap.size w (w9.setCell ⟨n, 2, none⟩ (.slice AF (Bk.pub s.vs v).length cF)) := PX.out.all.setCell NB.out _
    have hS5 : SlF Bk.vnC (w9.setCell ⟨n, 2, none⟩ (.slice AF (Bk.pub s.vs v).length cF)) AF (Bk.pub s.vs v).length cF (Bk.pub s.vs v) := S5.out.keep (by simp) fun b o e hl => Below.heap_setCell _ _ _ _ (by have := FARF.out b o e; show b ≠ n; omega)
    generalize w9.setCell ⟨n, 2, none⟩ (.slice AF (Bk.pub s.vs v).length cF) = w5 at *
    have X5 := zh hX
    have X35 := zh hX3
    have B5 := zh hb5
    have S6 := zh hS5
    clear hX hX3 hb5 hS5 f2 b2 c0 c1
    go_wp2_with (first
     | ((with_reducible show zL 48); refine jaa rfl (.tmp 2) rfl rfl X5.out ?_)
     | ((with_reducible show zW); refine jab rfl (.tmp 4) (.tmp 48) rfl rfl rfl X35.out (Bk.one_cell RD.out.one'.1 rfl RD.out.one'.2.2) ?_))
    have hoff : ∀ b, b ≠ n + 1 + 1 → (w5.setRow (n + 1 + 1) (Bk.cells { s with vs := Bk.pub s.vs v } L (.slice AF (Bk.pub s.vs v).length cF) H)).heap[b]? = w5.heap[b]? := fun b hb => jao _ _ (fun e => hb e.symm)
    have hlow : Below w.heap.size w (w5.setRow (n + 1 + 1) (Bk.cells { s with vs := Bk.pub s.vs v } L (.slice AF (Bk.pub s.vs v).length cF) H)) := below_setRow B5.out (by have := NB.out; omega) _
    obtain ⟨h1, h2, h3⟩ := RD.out.on hlow
    refine bodyPost_ret (jbr Tryz.results57 _ rfl (X35.out.setRow _ _ _ _)) rfl ⟨L, .slice AF (Bk.pub s.vs v).length cF, H, rfl, ⟨h1, ⟨AF, cF, rfl, ?_⟩, h3⟩, hlow⟩
    exact S6.out.keep (by rw [jap]; exact Nat.le_refl _) fun b o e hl => hoff b (by have := FARF.out b o e; omega)
   | true =>
    have PE := zh PU.out.done
    have OP : Hid (OwF Bk.vnC 2 72 wr W.heap.size u5 (Bk.pub s.vs v)) := by rw [← PE.out]; exact O.out
    obtain ⟨AF, cF, rfl⟩ := OP.out.form
    have S5 := zh OP.out.sl
    have FARF : Hid (∀ b o, AF = some ⟨b, o, none⟩ → n + 1 + 1 < b) := fun b o e => by have := (OP.out.lt b (by rw [e]; rfl)).1; have := PX.out.size; omega
    have f2 := PX.out.bk.fz
    go_upto_region 13 with fail
    have hX : BkAt (wr.setCell ⟨n, 2, none⟩ (.slice AF (Bk.pub s.vs v).length cF)) n { s with vs := Bk.pub s.vs v } L (.slice AF (Bk.pub s.vs v).length cF) H := PX.out.bk.vsl _ _
    have hX3 : BkAt (wr.setCell ⟨n, 2, none⟩ (.slice AF (Bk.pub s.vs v).length cF)) (n + 1 + 1) Bk.none_ (.slice none 0 0) (.slice none 0 0) (.slice none 0 0) := PX.out.out.keep (Below.heap_setCell _ _ _ _ (by simp; omega))
    have hb5 : Below w.heap.size w (wr.setCell ⟨n, 2, none⟩ (.slice AF (Bk.pub s.vs v).length cF)) := PX.out.all.setCell NB.out _
    have hS5 : SlF Bk.vnC (wr.setCell ⟨n, 2, none⟩ (.slice AF (Bk.pub s.vs v).length cF)) AF (Bk.pub s.vs v).length cF (Bk.pub s.vs v) := S5.out.keep (by simp) fun b o e hl => Below.heap_setCell _ _ _ _ (by have := FARF.out b o e; show b ≠ n; omega)
    generalize wr.setCell ⟨n, 2, none⟩ (.slice AF (Bk.pub s.vs v).length cF) = w5 at *
    have X5 := zh hX
    have X35 := zh hX3
    have B5 := zh hb5
    have S6 := zh hS5
    clear hX hX3 hb5 hS5 f2 b2 c0 c1
    go_wp2_with (first
     | ((with_reducible show zL 48); refine jaa rfl (.tmp 2) rfl rfl X5.out ?_)
     | ((with_reducible show zW); refine jab rfl (.tmp 4) (.tmp 48) rfl rfl rfl X35.out (Bk.one_cell RD.out.one'.1 rfl RD.out.one'.2.2) ?_))
    have hoff : ∀ b, b ≠ n + 1 + 1 → (w5.setRow (n + 1 + 1) (Bk.cells { s with vs := Bk.pub s.vs v } L (.slice AF (Bk.pub s.vs v).length cF) H)).heap[b]? = w5.heap[b]? := fun b hb => jao _ _ (fun e => hb e.symm)
    have hlow : Below w.heap.size w (w5.setRow (n + 1 + 1) (Bk.cells { s with vs := Bk.pub s.vs v } L (.slice AF (Bk.pub s.vs v).length cF) H)) := below_setRow B5.out (by have := NB.out; omega) _
    obtain ⟨h1, h2, h3⟩ := RD.out.on hlow
    refine bodyPost_ret (jbr Tryz.results57 _ rfl (X35.out.setRow _ _ _ _)) rfl ⟨L, .slice AF (Bk.pub s.vs v).length cF, H, rfl, ⟨h1, ⟨AF, cF, rfl, ?_⟩, h3⟩, hlow⟩
    exact S6.out.keep (by rw [jap]; exact Nat.le_refl _) fun b o e hl => hoff b (by have := FARF.out b o e; omega)
theorem jcv (s : Bk.St) (hl : s.h.length ≤ 24) (r : Rc.R) (L V H : Value) (w : World) (h : BkRd w s L V H) : Calls Tryz.prog 58 #[.agg (Bk.cells s L V H), .agg (Rc.cells r)] w (jek L V H w (Bk.note s r)) := by
 have hz := ja9
 obtain ⟨A, c, rfl, hh⟩ := h.h
 obtain ⟨W, hW⟩ : ∃ W, W = ((w.alloc (.cells (Bk.cells s L V (.slice A s.h.length c)) 40)).alloc (.cells (Rc.cells r) 53)).alloc (.cells Bk.zeros 40) := ⟨_, rfl⟩
 obtain ⟨r1, r2, r3, hb, hs⟩ := jal hW
 have RD := zh h
 have SH := zh (hh.on hb)
 clear h hh
 go_enter Tryz.func58, Tryz.ntmps58
 go_upto_region 2 with fail
 rw [← hW]
 clear hW hz
 obtain ⟨n, hn⟩ : ∃ n, n = w.heap.size := ⟨_, rfl⟩
 rw [← hn] at r1 r2 r3 hs ⊢
 have X1 : Hid (BkAt W n s L V (.slice A s.h.length c)) := ⟨r1⟩
 have X2 : Hid (RcAt W (n + 1) r) := ⟨r2⟩
 have X3 : Hid (BkAt W (n + 1 + 1) Bk.none_ (.slice none 0 0) (.slice none 0 0) (.slice none 0 0)) := ⟨r3⟩
 have NB := zh (Nat.le_of_eq hn.symm)
 have B := zh hb
 have HL := zh hl
 have X1z := zh X1.out.lt
 have X3z := zh X3.out.lt
 have h73 := X1.out.cs.c73
 have hov : OwF Bk.rcC 18 53 W W.heap.size (.slice none 0 0) [] := OwF.none_ _ _ _
 generalize Value.slice none 0 0 = v0 at hov ⊢
 have OV := zh hov
 clear hn r1 r2 r3 hs hb hov hl
 go_upto_region 4 with (first
  | ((with_reducible show zL 11); refine zR (.tmp 3) X2.out ?_)
  | ((with_reducible show zB 12); refine jag Tryz.underlying22 jak (by omega) (by omega) rfl (.tmp 11) rfl (Rc.cells r) rfl rfl ?_)
  | (at_builtin; refine jad Bk.rcC_len Bk.rcC_one Tryz.underlying22 jak rfl (by omega) rfl (.tmp 10) (.tmp 12) rfl W.heap.size v3 s.h rfl O3.out r rfl (by have := HL.out; unfold maxLen; omega) (by have := HL.out; omega) S3.out ?_; intro v4 w4 ho4 hb4 hg4 _; obtain ⟨A4, c4, rfl⟩ := ho4.form; have O4 := zh ho4; have X1 := zh (X1.out.keep (hb4.block _ K1.out)); have X3 := zh (X3.out.keep (hb4.block _ K3.out)); have B4 := zh (B3.out.trans (hb4.mono KB.out)); clear ho4 hb4 hg4)
  | (at_builtin; refine ja4 Bk.rcC_len Bk.rcC_one Tryz.underlying22 jak rfl (by omega) rfl (.tmp 6) (.tmp 8) rfl W.heap.size v0 [] s.h rfl OV.out rfl SH.out (by have := HL.out; unfold maxLen; simp; omega) (by have := HL.out; simp; omega) (Nat.le_refl _) ?_; intro v3 w3 ho3 hb3 hg3 _; have O3 := zh ho3; have X1 := zh (X1.out.on hb3); have X2 := zh (X2.out.on hb3); have X3 := zh (X3.out.on hb3); have B3 := zh (B.out.trans (hb3.mono B.out.size)); have S3 := zh hb3.size; have K1 := zh X1z.out; have K3 := zh X3z.out; have KB := zh B.out.size; clear h73 ho3 hb3 hg3))
 clear X1z OV O3 S3 K1 K3 KB X2 SH
 obtain ⟨N, hN⟩ : ∃ N, N = s.h.length + 1 := ⟨_, rfl⟩
 obtain ⟨k, hk⟩ : ∃ k, k = N - 24 := ⟨_, rfl⟩
 have HN : Hid (N = (s.h ++ [r]).length ∧ N ≤ 25 ∧ k = (s.h ++ [r]).length - 24 ∧ k ≤ N) := by
  show _ ∧ _ ∧ _ ∧ _
  have := HL.out
  rw [List.length_append, List.length_singleton]
  omega
 have hw1 : wrap64 ((N : Int) - 24) = (N : Int) - 24 := IntWalk.wrap64_in _ ⟨by omega, by have := HL.out; omega⟩
 have hmx : max ((N : Int) - 24) 0 = (k : Int) := by omega
 obtain ⟨A5, c5, hA5, hsl⟩ : ∃ A5 c5, (A5 = (if c4 = k then A4 else A4.map fun x => x.add (k * 18)) ∧ c5 = c4 - k) ∧ ∀ W, (Instr.slice 22 (.slice A4 N c4) (some (.int .i64 (k : Int))) none none).run Tryz.prog W = .ok (.slice A5 (N - k) c5) W := ⟨_, _, ⟨rfl, rfl⟩, jel A4 N c4 k HN.out.2.2.2⟩
 have O4 : Hid (OwF Bk.rcC 18 53 w4 W.heap.size (.slice A4 N c4) (s.h ++ [r])) := by
  show OwF _ _ _ _ _ _ _
  rw [hN]
  have := O4.out
  rw [List.length_append, List.length_singleton] at this
  exact this
 rw [← hN]
 clear hN hk
 have S5 : Hid (SlF Bk.rcC w4 A5 (N - k) c5 ((s.h ++ [r]).drop k)) := by
  show SlF _ _ _ _ _ _
  rw [hA5.1, hA5.2]
  exact O4.out.sl.drop Bk.rcC_len HN.out.2.2.2 (jfq (k * 18))
 have FAR : Hid (∀ b o, A5 = some ⟨b, o, none⟩ → 0 < N - k → n + 1 + 1 < b) := by
  intro b o e _
  have h3 := X3z.out
  rw [hA5.1] at e
  by_cases hc : c4 = k
  ·rw [if_pos hc] at e
   have := (O4.out.lt b (by rw [e]; rfl)).1
   omega
  ·rw [if_neg hc] at e
   cases hA : A4 with
   | none => rw [hA] at e; cases e
   | some x =>
    rw [hA, Option.map_some] at e
    injection e with e
    have h1 := (O4.out.lt x.block (by rw [hA]; rfl)).1
    have h2 : (x.add (k * 18)).block = x.block := by unfold Addr.add; split <;> rfl
    rw [e] at h2
    have h4 : b = x.block := h2
    omega
 have HA5 := zh hA5
 clear hA5
 have h73 := X1.out.cs.c73
 have f73 := X1.out.fz
 go_upto_region 5 with fail
 have hX : BkAt (w4.setCell ⟨n, 73, none⟩ (.slice A5 (N - k) c5)) n (Bk.note s r) L V (.slice A5 (N - k) c5) := X1.out.hsl _ _
 have hX3 : BkAt (w4.setCell ⟨n, 73, none⟩ (.slice A5 (N - k) c5)) (n + 1 + 1) Bk.none_ (.slice none 0 0) (.slice none 0 0) (.slice none 0 0) := X3.out.keep (Below.heap_setCell _ _ _ _ (by simp; omega))
 have hb5 : Below w.heap.size w (w4.setCell ⟨n, 73, none⟩ (.slice A5 (N - k) c5)) := B4.out.setCell NB.out _
 have hS5 : SlF Bk.rcC (w4.setCell ⟨n, 73, none⟩ (.slice A5 (N - k) c5)) A5 (N - k) c5 (Bk.note s r).h := by
  have h0 : (Bk.note s r).h = (s.h ++ [r]).drop k := by show Bk.last24 _ = _; unfold Bk.last24; rw [HN.out.2.2.1]
  rw [h0]
  refine S5.out.keep (by simp) fun b o e hl => Below.heap_setCell _ _ _ _ ?_
  have h1 := FAR.out b o e (by have := S5.out.len; omega)
  show b ≠ n
  omega
 have hN5 : N - k = (Bk.note s r).h.length := by have := hS5.len; exact this
 have hfar : ∀ b o, A5 = some ⟨b, o, none⟩ → 0 < N - k → b ≠ n + 1 + 1 := fun b o e hp => by have := FAR.out b o e hp; omega
 generalize w4.setCell ⟨n, 73, none⟩ (.slice A5 (N - k) c5) = w5 at *
 have X5 := zh hX
 have X35 := zh hX3
 have B5 := zh hb5
 have S6 := zh hS5
 have N5 := zh hN5
 have F5 := zh hfar
 clear hX hX3 hb5 hS5 hN5 hfar h73 f73 hw1 hmx hsl
 go_wp2_with (first
  | ((with_reducible show zL 21); refine jaa rfl (.tmp 2) rfl rfl X5.out ?_)
  | ((with_reducible show zW); refine jab rfl (.tmp 4) (.tmp 21) rfl rfl rfl X35.out (Bk.one_cell RD.out.one'.1 RD.out.one'.2.1 rfl) ?_))
 have hoff : ∀ b, b ≠ n + 1 + 1 → (w5.setRow (n + 1 + 1) (Bk.cells (Bk.note s r) L V (.slice A5 (N - k) c5))).heap[b]? = w5.heap[b]? := fun b hb => jao _ _ (fun e => hb e.symm)
 have hlow : Below w.heap.size w (w5.setRow (n + 1 + 1) (Bk.cells (Bk.note s r) L V (.slice A5 (N - k) c5))) := below_setRow B5.out (by have := NB.out; omega) _
 obtain ⟨h1, h2, h3⟩ := RD.out.on hlow
 refine bodyPost_ret (jbr Tryz.results58 _ rfl (X35.out.setRow _ _ _ _)) rfl ⟨L, V, .slice A5 (N - k) c5, rfl, ⟨h1, h2, A5, c5, by rw [← N5.out], ?_⟩, hlow, .inl rfl, .inl rfl, jd7 fun b o e hp => by have := FAR.out b o e hp; have := NB.out; omega⟩
 rw [← N5.out]
 exact S6.out.keep (by rw [jap]; exact Nat.le_refl _) fun b o e hl => hoff b (F5.out b o e (by have := S6.out.len; omega))
theorem jkt (s : Bk.St) (hl : s.vs.length ≤ 64) (v : Bk.Vn) (L V H : Value) (w : World) (h : BkRd w s L V H) : Calls Tryz.prog 57 #[.agg (Bk.cells s L V H), .agg #[.int .i64 v.n, .string v.t]] w (jek L V H w { s with vs := Bk.pub s.vs v }) := by
 have hz := ja9
 obtain ⟨A, c, rfl, hh⟩ := h.v
 obtain ⟨W, hW⟩ : ∃ W, W = ((w.alloc (.cells (Bk.cells s L (.slice A s.vs.length c) H) 40)).alloc (.cells #[.int .i64 v.n, .string v.t] 72)).alloc (.cells Bk.zeros 40) := ⟨_, rfl⟩
 obtain ⟨r1, r2, r3, hb, hs⟩ := jal hW
 have RD := zh h
 have SV := zh (hh.on hb)
 have HL := zh hl
 have hcap := hh.cap
 clear h hh
 go_enter Tryz.func57, Tryz.ntmps57
 go_upto_region 2 with fail
 rw [← hW]
 clear hW hz
 obtain ⟨n, hn⟩ : ∃ n, n = w.heap.size := ⟨_, rfl⟩
 rw [← hn] at r1 r2 r3 hs ⊢
 have PA : Hid (jfr w W W n s L (.slice A s.vs.length c) H v) := ⟨⟨r1⟩, cell_of_row _ _ 0 _ _ _ r2, cell_of_row _ _ 1 _ _ _ r2, ⟨r3⟩, Below.refl _ _, by omega, hb⟩
 have NB := zh (Nat.le_of_eq hn.symm)
 have hov : OwF Bk.vnC 2 72 W W.heap.size (.slice none 0 0) [] := OwF.none_ _ _ _
 generalize Value.slice none 0 0 = v0 at hov ⊢
 have OV := zh hov
 clear hn r1 r2 r3 hs hb hov hl
 go_wp2_with fail
 go_loopw [5, 6, 7] (fun u d i wr => ∃ (j : Nat) (l : List Bk.Vn) (dn : Bool), j ≤ s.vs.length ∧ i = .int .i64 j ∧ d = .bool dn ∧ OwF Bk.vnC 2 72 wr W.heap.size u l ∧ Bk.Put s.vs v j l dn ∧ jfr w W wr n s L (.slice A s.vs.length c) H v) (fun _ _ i _ => s.vs.length - (intOf i).toNat)
 case atStart => exact ⟨0, [], false, by omega, rfl, rfl, OV.out, Bk.Put.start _ _, PA.out⟩
 case round =>
  obtain ⟨j, l, dn, hj, rfl, rfl, ho, hp, hq⟩ := hrel
  have O := zh ho
  have PU := zh hp
  have PX := zh hq
  have hl64 := HL.out
  clear ho hp hq PA OV
  have b2 := PX.out.bk.cs.c2
  have c0 := PX.out.c0
  have c1 := PX.out.c1
  by_cases hlt : j < s.vs.length
  ·have hx : s.vs[j]? = some (s.vs[j]'hlt) := List.getElem?_eq_getElem _
   generalize s.vs[j]'hlt = x at hx
   obtain ⟨b, o, rfl, hbl, hcell⟩ := (SV.out.on PX.out.below).at_ Bk.vnC_len hx
   have x0 : wr.cell? ⟨b, o + j * 2, none⟩ = some (.int .i64 x.n) := hcell 0 _ rfl
   have x1 : wr.cell? ⟨b, o + j * 2 + 1, none⟩ = some (.string x.t) := hcell 1 _ rfl
   have HX := zh hx
   have hbW : b < W.heap.size := by
    obtain ⟨b', o', he, hb', _⟩ := SV.out.rd (by omega)
    injection he with he; injection he with he _; omega
   have HBW := zh hbW
   clear hcell hx hbW
   have hll := PU.out.len
   cases dn with
   | false =>
    by_cases hvn : v.n < x.n
    ·have PN := zh (PU.out.first HX.out hvn)
     have hlj := PU.out.ln rfl
     go_wp2_with fail
     go_region
     obtain ⟨W1, hW1⟩ : ∃ W1, W1 = wr.drew := ⟨_, rfl⟩
     rw [← hW1]
     have hb1 : Below W.heap.size wr W1 := by rw [hW1]; exact (Below.refl _ _).drew
     have O := zh (show OwF Bk.vnC 2 72 W1 W.heap.size u5 l from by rw [hW1]; exact O.out)
     clear hW1
     have PX := zh (PX.out.step hb1)
     have y0 := (hb1.cell (p := ⟨b, o + j * 2, none⟩) HBW.out).trans x0
     have y1 := (hb1.cell (p := ⟨b, o + j * 2 + 1, none⟩) HBW.out).trans x1
     clear b2 c0 c1 x0 x1
     have x0 := y0
     have x1 := y1
     clear y0 y1
     have b2 := PX.out.bk.cs.c2
     have c0 := PX.out.c0
     have c1 := PX.out.c1
     clear hb1
     go_upto_region 9 with (at_builtin; refine jad Bk.vnC_len Bk.vnC_one Tryz.underlying32 jb6 rfl (by omega) rfl (.tmp 28) (.tmp 30) rfl W.heap.size u5 l rfl O.out v rfl (by skip; unfold maxLen; omega) (by skip; omega) PX.out.below.size ?_; intro v9 w9 ho9 hb9 hg9 _; have O := zh ho9; have PX := zh (PX.out.step hb9); have y0 := (hb9.cell (p := ⟨b, o + j * 2, none⟩) HBW.out).trans x0; have y1 := (hb9.cell (p := ⟨b, o + j * 2 + 1, none⟩) HBW.out).trans x1; clear b2 c0 c1 x0 x1; have x0 := y0; have x1 := y1; clear y0 y1; have b2 := PX.out.bk.cs.c2; have c0 := PX.out.c0; have c1 := PX.out.c1; clear ho9 hg9 hb9)
     go_wp2_with (at_builtin; refine jad Bk.vnC_len Bk.vnC_one Tryz.underlying32 jb6 rfl (by omega) rfl (.tmp 32) (.tmp 38) rfl W.heap.size _ (l ++ [v]) rfl O.out x rfl (by rw [List.length_append, List.length_singleton]; unfold maxLen; omega) (by rw [List.length_append, List.length_singleton]; omega) PX.out.below.size ?_; intro v9 w9 ho9 hb9 hg9 _; have O := zh ho9; have PX := zh (PX.out.step hb9); have y0 := (hb9.cell (p := ⟨b, o + j * 2, none⟩) HBW.out).trans x0; have y1 := (hb9.cell (p := ⟨b, o + j * 2 + 1, none⟩) HBW.out).trans x1; clear b2 c0 c1 x0 x1; have x0 := y0; have x1 := y1; clear y0 y1; have b2 := PX.out.bk.cs.c2; have c0 := PX.out.c0; have c1 := PX.out.c1; clear ho9 hg9 hb9)
     exact ⟨⟨j + 1, _, true, by omega, by go_num, rfl, O.out, PN.out, PX.out⟩, by simp [intOf]; omega⟩
    ·have PN := zh (PU.out.next HX.out (fun _ => hvn))
     go_wp2_with fail
     go_region
     obtain ⟨W1, hW1⟩ : ∃ W1, W1 = wr.drew := ⟨_, rfl⟩
     rw [← hW1]
     have hb1 : Below W.heap.size wr W1 := by rw [hW1]; exact (Below.refl _ _).drew
     have O := zh (show OwF Bk.vnC 2 72 W1 W.heap.size u5 l from by rw [hW1]; exact O.out)
     clear hW1
     have PX := zh (PX.out.step hb1)
     have y0 := (hb1.cell (p := ⟨b, o + j * 2, none⟩) HBW.out).trans x0
     have y1 := (hb1.cell (p := ⟨b, o + j * 2 + 1, none⟩) HBW.out).trans x1
     clear b2 c0 c1 x0 x1
     have x0 := y0
     have x1 := y1
     clear y0 y1
     have b2 := PX.out.bk.cs.c2
     have c0 := PX.out.c0
     have c1 := PX.out.c1
     clear hb1
     go_wp2_with (at_builtin; refine jad Bk.vnC_len Bk.vnC_one Tryz.underlying32 jb6 rfl (by omega) rfl (.tmp 32) (.tmp 38) rfl W.heap.size u5 l rfl O.out x rfl (by skip; unfold maxLen; omega) (by skip; omega) PX.out.below.size ?_; intro v9 w9 ho9 hb9 hg9 _; have O := zh ho9; have PX := zh (PX.out.step hb9); have y0 := (hb9.cell (p := ⟨b, o + j * 2, none⟩) HBW.out).trans x0; have y1 := (hb9.cell (p := ⟨b, o + j * 2 + 1, none⟩) HBW.out).trans x1; clear b2 c0 c1 x0 x1; have x0 := y0; have x1 := y1; clear y0 y1; have b2 := PX.out.bk.cs.c2; have c0 := PX.out.c0; have c1 := PX.out.c1; clear ho9 hg9 hb9)
     exact ⟨⟨j + 1, _, false, by omega, by go_num, rfl, O.out, PN.out, PX.out⟩, by simp [intOf]; omega⟩
   | true =>
    have PN := zh (PU.out.next HX.out (fun h => by cases h))
    go_wp2_with fail
    go_region
    obtain ⟨W1, hW1⟩ : ∃ W1, W1 = wr.drew := ⟨_, rfl⟩
    rw [← hW1]
    have hb1 : Below W.heap.size wr W1 := by rw [hW1]; exact (Below.refl _ _).drew
    have O := zh (show OwF Bk.vnC 2 72 W1 W.heap.size u5 l from by rw [hW1]; exact O.out)
    clear hW1
    have PX := zh (PX.out.step hb1)
    have y0 := (hb1.cell (p := ⟨b, o + j * 2, none⟩) HBW.out).trans x0
    have y1 := (hb1.cell (p := ⟨b, o + j * 2 + 1, none⟩) HBW.out).trans x1
    clear b2 c0 c1 x0 x1
    have x0 := y0
    have x1 := y1
    clear y0 y1
    have b2 := PX.out.bk.cs.c2
    have c0 := PX.out.c0
    have c1 := PX.out.c1
    clear hb1
    go_wp2_with (at_builtin; refine jad Bk.vnC_len Bk.vnC_one Tryz.underlying32 jb6 rfl (by omega) rfl (.tmp 32) (.tmp 38) rfl W.heap.size u5 l rfl O.out x rfl (by skip; unfold maxLen; omega) (by skip; omega) PX.out.below.size ?_; intro v9 w9 ho9 hb9 hg9 _; have O := zh ho9; have PX := zh (PX.out.step hb9); have y0 := (hb9.cell (p := ⟨b, o + j * 2, none⟩) HBW.out).trans x0; have y1 := (hb9.cell (p := ⟨b, o + j * 2 + 1, none⟩) HBW.out).trans x1; clear b2 c0 c1 x0 x1; have x0 := y0; have x1 := y1; clear y0 y1; have b2 := PX.out.bk.cs.c2; have c0 := PX.out.c0; have c1 := PX.out.c1; clear ho9 hg9 hb9)
    exact ⟨⟨j + 1, _, true, by omega, by go_num, rfl, O.out, PN.out, PX.out⟩, by simp [intOf]; omega⟩
  ·obtain rfl : j = s.vs.length := by omega
   have hll := PU.out.len
   cases dn with
   | false =>
    have PE := zh PU.out.last
    go_upto_region 12 with (at_builtin; refine jad Bk.vnC_len Bk.vnC_one Tryz.underlying32 jb6 rfl (by omega) rfl (.tmp 42) (.tmp 44) rfl W.heap.size u5 l rfl O.out v rfl (by unfold maxLen; omega) (by omega) PX.out.below.size ?_; intro v9 w9 ho9 hb9 hg9 _; have O := zh ho9; have PX := zh (PX.out.step hb9); clear b2 c0 c1; have b2 := PX.out.bk.cs.c2; have c0 := PX.out.c0; have c1 := PX.out.c1; clear ho9 hg9 hb9)
    rw [PE.out] at O
    obtain ⟨AF, cF, rfl⟩ := O.out.form
    have S5 := zh O.out.sl
    have FARF : Hid (∀ b o, AF = some ⟨b, o, none⟩ → n + 1 + 1 < b) := fun b o e => by have := (O.out.lt b (by rw [e]; rfl)).1; have := PX.out.size; omega
    have f2 := PX.out.bk.fz
    go_upto_region 13 with fail
    have hX : BkAt (w9.setCell ⟨n, 2, none⟩ (.slice AF (Bk.pub s.vs v).length cF)) n { s with vs := Bk.pub s.vs v } L (.slice AF (Bk.pub s.vs v).length cF) H := PX.out.bk.vsl _ _
    have hX3 : BkAt (w9.setCell ⟨n, 2, none⟩ (.slice AF (Bk.pub s.vs v).length cF)) (n + 1 + 1) Bk.none_ (.slice none 0 0) (.slice none 0 0) (.slice none 0 0) := PX.out.out.keep (Below.heap_setCell _ _ _ _ (by simp; omega))
    have hb5 : Below w.heap.size w (w9.setCell ⟨n, 2, none⟩ (.slice AF (Bk.pub s.vs v).length cF)) := PX.out.all.setCell NB.out _
    have hS5 : SlF Bk.vnC (w9.setCell ⟨n, 2, none⟩ (.slice AF (Bk.pub s.vs v).length cF)) AF (Bk.pub s.vs v).length cF (Bk.pub s.vs v) := S5.out.keep (by simp) fun b o e hl => Below.heap_setCell _ _ _ _ (by have := FARF.out b o e; show b ≠ n; omega)
    generalize w9.setCell ⟨n, 2, none⟩ (.slice AF (Bk.pub s.vs v).length cF) = w5 at *
    have X5 := zh hX
    have X35 := zh hX3
    have B5 := zh hb5
    have S6 := zh hS5
    clear hX hX3 hb5 hS5 f2 b2 c0 c1
    go_wp2_with (first
     | ((with_reducible show zL 48); refine jaa rfl (.tmp 2) rfl rfl X5.out ?_)
     | ((with_reducible show zW); refine jab rfl (.tmp 4) (.tmp 48) rfl rfl rfl X35.out (Bk.one_cell RD.out.one'.1 rfl RD.out.one'.2.2) ?_))
    have hoff : ∀ b, b ≠ n + 1 + 1 → (w5.setRow (n + 1 + 1) (Bk.cells { s with vs := Bk.pub s.vs v } L (.slice AF (Bk.pub s.vs v).length cF) H)).heap[b]? = w5.heap[b]? := fun b hb => jao _ _ (fun e => hb e.symm)
    have hlow : Below w.heap.size w (w5.setRow (n + 1 + 1) (Bk.cells { s with vs := Bk.pub s.vs v } L (.slice AF (Bk.pub s.vs v).length cF) H)) := below_setRow B5.out (by have := NB.out; omega) _
    obtain ⟨h1, h2, h3⟩ := RD.out.on hlow
    refine bodyPost_ret (jbr Tryz.results57 _ rfl (X35.out.setRow _ _ _ _)) rfl ⟨L, .slice AF (Bk.pub s.vs v).length cF, H, rfl, ⟨h1, ⟨AF, cF, rfl, ?_⟩, h3⟩, hlow, .inl rfl, jd7 fun b o e hp => by have := FARF.out b o e; have := NB.out; omega, .inl rfl⟩
    exact S6.out.keep (by rw [jap]; exact Nat.le_refl _) fun b o e hl => hoff b (by have := FARF.out b o e; omega)
   | true =>
    have PE := zh PU.out.done
    have OP : Hid (OwF Bk.vnC 2 72 wr W.heap.size u5 (Bk.pub s.vs v)) := by rw [← PE.out]; exact O.out
    obtain ⟨AF, cF, rfl⟩ := OP.out.form
    have S5 := zh OP.out.sl
    have FARF : Hid (∀ b o, AF = some ⟨b, o, none⟩ → n + 1 + 1 < b) := fun b o e => by have := (OP.out.lt b (by rw [e]; rfl)).1; have := PX.out.size; omega
    have f2 := PX.out.bk.fz
    go_upto_region 13 with fail
    have hX : BkAt (wr.setCell ⟨n, 2, none⟩ (.slice AF (Bk.pub s.vs v).length cF)) n { s with vs := Bk.pub s.vs v } L (.slice AF (Bk.pub s.vs v).length cF) H := PX.out.bk.vsl _ _
    have hX3 : BkAt (wr.setCell ⟨n, 2, none⟩ (.slice AF (Bk.pub s.vs v).length cF)) (n + 1 + 1) Bk.none_ (.slice none 0 0) (.slice none 0 0) (.slice none 0 0) := PX.out.out.keep (Below.heap_setCell _ _ _ _ (by simp; omega))
    have hb5 : Below w.heap.size w (wr.setCell ⟨n, 2, none⟩ (.slice AF (Bk.pub s.vs v).length cF)) := PX.out.all.setCell NB.out _
    have hS5 : SlF Bk.vnC (wr.setCell ⟨n, 2, none⟩ (.slice AF (Bk.pub s.vs v).length cF)) AF (Bk.pub s.vs v).length cF (Bk.pub s.vs v) := S5.out.keep (by simp) fun b o e hl => Below.heap_setCell _ _ _ _ (by have := FARF.out b o e; show b ≠ n; omega)
    generalize wr.setCell ⟨n, 2, none⟩ (.slice AF (Bk.pub s.vs v).length cF) = w5 at *
    have X5 := zh hX
    have X35 := zh hX3
    have B5 := zh hb5
    have S6 := zh hS5
    clear hX hX3 hb5 hS5 f2 b2 c0 c1
    go_wp2_with (first
     | ((with_reducible show zL 48); refine jaa rfl (.tmp 2) rfl rfl X5.out ?_)
     | ((with_reducible show zW); refine jab rfl (.tmp 4) (.tmp 48) rfl rfl rfl X35.out (Bk.one_cell RD.out.one'.1 rfl RD.out.one'.2.2) ?_))
    have hoff : ∀ b, b ≠ n + 1 + 1 → (w5.setRow (n + 1 + 1) (Bk.cells { s with vs := Bk.pub s.vs v } L (.slice AF (Bk.pub s.vs v).length cF) H)).heap[b]? = w5.heap[b]? := fun b hb => jao _ _ (fun e => hb e.symm)
    have hlow : Below w.heap.size w (w5.setRow (n + 1 + 1) (Bk.cells { s with vs := Bk.pub s.vs v } L (.slice AF (Bk.pub s.vs v).length cF) H)) := below_setRow B5.out (by have := NB.out; omega) _
    obtain ⟨h1, h2, h3⟩ := RD.out.on hlow
    refine bodyPost_ret (jbr Tryz.results57 _ rfl (X35.out.setRow _ _ _ _)) rfl ⟨L, .slice AF (Bk.pub s.vs v).length cF, H, rfl, ⟨h1, ⟨AF, cF, rfl, ?_⟩, h3⟩, hlow, .inl rfl, jd7 fun b o e hp => by have := FARF.out b o e; have := NB.out; omega, .inl rfl⟩
    exact S6.out.keep (by rw [jap]; exact Nat.le_refl _) fun b o e hl => hoff b (by have := FARF.out b o e; omega)
end Go.Proofs.YtnacjhnfkkddcaaGreatDoor
