import Derived.Test.YtnacjhnfkkddcaaGreatDoorQp13
import Derived.Test.YtnacjhnfkkddcaaGreatDoorQp14
set_option maxHeartbeats 6400000
set_option maxRecDepth 100000
set_option linter.unusedSimpArgs false
set_option linter.unusedVariables false
namespace Go.Proofs.YtnacjhnfkkddcaaGreatDoor
open Go.RowKit
def Bk.made (m : Int) (j : Nat) : Bk.St := { Bk.none_ with m := min (max m 0) 1048576, us := fun i => ⟨0, 0, decide (i < j)⟩ }
theorem Bk.made_next (m : Int) (j : Nat) : { Bk.made m j with us := Bk.setU (Bk.made m j).us j { (Bk.made m j).us j with d := true } } = Bk.made m (j + 1) := by
 unfold Bk.made Bk.setU
 simp only
 congr 1
 funext i
 by_cases h : i = j
 ·rw [if_pos h]; subst h; simp
 ·rw [if_neg h]
  congr 1
  exact decide_eq_decide.2 (by omega)
theorem Bk.made_cells (m : Int) (L V H : Value) : Bk.cells (Bk.made m 16) L V H = Bk.cells (Bk.new m) L V H := rfl
theorem jih (w : World) {s : Bk.St} (h1 : s.ep = 0) (h2 : s.vs = []) (h3 : s.h = []) : BkRd w s (.slice none 0 0) (.slice none 0 0) (.slice none 0 0) := by
 refine ⟨⟨none, 0, ?_, ?_⟩, ⟨none, 0, ?_, ?_⟩, ⟨none, 0, ?_, ?_⟩⟩
 ·rw [jhl h1]; rfl
 ·rw [jhl h1]; exact SlF.none_ w
 ·rw [h2]; rfl
 ·rw [h2]; exact SlF.none_ w
 ·rw [h3]; rfl
 ·rw [h3]; exact SlF.none_ w
theorem jgh (m : Int) (w : World) : Calls Tryz.prog 31 #[.int .i64 m] w (jkd w (Bk.new m)) := by
 have hz := ja9
 obtain ⟨W, hW⟩ : ∃ W, W = (w.alloc (.cells Bk.zeros 40)).alloc (.cells Bk.zeros 40) := ⟨_, rfl⟩
 obtain ⟨r1, r2, hb, hs⟩ := jbe hW
 have CN := zh (fun W => jko m W)
 go_enter Tryz.func31, Tryz.ntmps31
 go_upto_region 2 with fail
 rw [← hW]
 clear hW hz
 have X1 : Hid (BkAt W w.heap.size Bk.none_ (.slice none 0 0) (.slice none 0 0) (.slice none 0 0)) := ⟨r1⟩
 have X2 : Hid (BkAt W (w.heap.size + 1) Bk.none_ (.slice none 0 0) (.slice none 0 0) (.slice none 0 0)) := ⟨r2⟩
 obtain ⟨n, hn⟩ : ∃ n, n = w.heap.size := ⟨_, rfl⟩
 rw [← hn] at X1 X2 ⊢
 have NB := zh (Nat.le_of_eq hn.symm)
 have B := zh hb
 clear hn r1 r2 hs hb
 go_upto_region 3 with (go_at_call 51; (with_reducible refine (CN.out _).mono ?_); rintro e w2 ⟨rfl, hb⟩; have X1 := zh (X1.out.on hb); have X2 := zh (X2.out.on hb); have B := zh (B.out.trans (hb.mono B.out.size)); clear hb; have y0 := X2.out.cs.c0; have y1 := X2.out.cs.c1; have yf := X2.out.fz; have k1 := X2.out.lt)
 have hX3 : BkAt ((w2.setCell ⟨n + 1, 0, none⟩ (.int .i64 (min (max m 0) 1048576))).setCell ⟨n + 1, 1, none⟩ (.slice none 0 0)) (n + 1) (Bk.made m 0) (.slice none 0 0) (.slice none 0 0) (.slice none 0 0) := (X2.out.mg _).ls _
 have hb3 : Below w.heap.size w ((w2.setCell ⟨n + 1, 0, none⟩ (.int .i64 (min (max m 0) 1048576))).setCell ⟨n + 1, 1, none⟩ (.slice none 0 0)) := (B.out.setCell (by have := NB.out; show w.heap.size ≤ n + 1; omega) _).setCell (by have := NB.out; show w.heap.size ≤ n + 1; omega) _
 have hX1 : BkAt ((w2.setCell ⟨n + 1, 0, none⟩ (.int .i64 (min (max m 0) 1048576))).setCell ⟨n + 1, 1, none⟩ (.slice none 0 0)) n Bk.none_ (.slice none 0 0) (.slice none 0 0) (.slice none 0 0) := X1.out.keep ((Below.heap_setCell _ _ _ _ (by simp)).trans (Below.heap_setCell _ _ _ _ (by simp)))
 generalize (w2.setCell ⟨n + 1, 0, none⟩ (.int .i64 (min (max m 0) 1048576))).setCell ⟨n + 1, 1, none⟩ (.slice none 0 0) = w3 at *
 have X1 := zh hX1
 have X3 := zh hX3
 have B3 := zh hb3
 clear hX1 hX3 hb3 y0 y1 yf k1 X2 B
 go_wp2_with fail
 go_loopw [4] (fun i wr => ∃ j : Nat, j ≤ 16 ∧ i = .int .i64 j ∧ BkAt wr (n + 1) (Bk.made m j) (.slice none 0 0) (.slice none 0 0) (.slice none 0 0) ∧ BkAt wr n Bk.none_ (.slice none 0 0) (.slice none 0 0) (.slice none 0 0) ∧ Below w.heap.size w wr) (fun i _ => 16 - (intOf i).toNat)
 case atStart => exact ⟨0, by omega, rfl, X3.out, X1.out, B3.out⟩
 case round =>
  obtain ⟨j, hj, rfl, h1, h2, h3⟩ := hrel
  have Y1 := zh h1
  have Y2 := zh h2
  have BB := zh h3
  clear h1 h2 h3
  by_cases hlt : j < 16
  ·obtain ⟨u0, u1, u2⟩ := Y1.out.unit hlt
   have uf := Y1.out.fz
   clear u0 u1
   go_wp2_with fail
   refine ⟨⟨j + 1, by omega, by go_num, ?_, Y2.out.keep (Below.heap_setCell _ _ _ _ (by simp)), BB.out.setCell (by have := NB.out; show w.heap.size ≤ n + 1; omega) _⟩, by simp [intOf]; omega⟩
   rw [← Bk.made_next]
   exact Y1.out.unitD hlt true
  ·obtain rfl : j = 16 := by omega
   go_wp2_with (first
    | ((with_reducible show zL 16); refine jaa rfl (.tmp 3) rfl rfl Y1.out ?_)
    | ((with_reducible show zW); refine jab rfl (.tmp 2) (.tmp 16) rfl rfl rfl Y2.out (Bk.one_cell rfl rfl rfl) ?_))
   refine bodyPost_ret (jbr Tryz.results31 _ rfl (Y2.out.setRow _ _ _ _)) rfl ⟨.slice none 0 0, .slice none 0 0, .slice none 0 0, by rw [Bk.made_cells], jih _ rfl rfl rfl, below_setRow BB.out NB.out _⟩
theorem jkw {a : Act} {oi : Oper} (x : Operand) (ho : oi.op = .load 40 x) (g : Nat) (s : Bk.St) (L V H : Value) (hx : a.eval x = .pointer (some ⟨g, 0, none⟩)) {W : World} (h : BkAt W g s L V H) : (execOp a.eval oi).run Tryz.prog W = .ok (.value (.agg (Bk.cells s L V H))) W := by
 unfold execOp
 simp only [ho, hx, Instr.loadAt, Instr.sureAddr, Sem.run_bind, Sem.run_pure, Result.andThen_ok, run_loadVar_row (P := Tryz.prog) W g 40 40 (Bk.cells s L V H) (0, 0) _ h.row jb9 rfl (jck s L V H)]
theorem jbl {w : World} {A : Option Addr} {n c : Nat} {ts : List Rc.R} (h : SlF Bk.rcC w A n c ts) {q : Nat} {t : Rc.R} (hq : ts[q]? = some t) : ∃ b o, A = some ⟨b, o, none⟩ ∧ b < w.heap.size ∧ w.rangeAt b (o + q * 18) (Rc.cells t).toList := by
 obtain ⟨b, o, h1, h2, h3⟩ := h.at_ Bk.rcC_len hq
 exact ⟨b, o, h1, h2, fun i u hi => h3 i u hi⟩
theorem jcw {a : Act} {oi : Oper} (x : Operand) (ho : oi.op = .load 53 x) (b o : Nat) (r : Rc.R) (hx : a.eval x = .pointer (some ⟨b, o, none⟩)) {W : World} (h : W.rangeAt b o (Rc.cells r).toList) : (execOp a.eval oi).run Tryz.prog W = .ok (.value (.agg (Rc.cells r))) W := by
 have := run_loadVar_mid (P := Tryz.prog) W b o 53 (Rc.cells r).toList _ h jai rfl (jam r)
 rw [Array.toArray_toList] at this
 unfold execOp
 simp only [ho, hx, Instr.loadAt, Instr.sureAddr, Sem.run_bind, Sem.run_pure, Result.andThen_ok, this]
theorem jbg {w w' : World} {b o : Nat} {cs : List Value} (h : w.rangeAt b o cs) (hb : w'.heap[b]? = w.heap[b]?) : w'.rangeAt b o cs := fun j v hv => (World.cell?_of_block hb).trans (h j v hv)
structure jdt (w0 W : World) (n g : Nat) (s : Bk.St) (L V H : Value) : Prop where
 res : BkAt W n Bk.none_ (.slice none 0 0) (.slice none 0 0) (.slice none 0 0)
 bk : BkAt W g s L V H
 rd : BkRd W s L V H
 below : Below w0.heap.size w0 W
 nn : w0.heap.size ≤ n
 ng : n < g
theorem jdt.on {w0 W W' : World} {n g : Nat} {s : Bk.St} {L V H : Value} (h : jdt w0 W n g s L V H) (hb : Below W.heap.size W W') : jdt w0 W' n g s L V H :=
 ⟨h.res.on hb, h.bk.on hb, h.rd.on hb, h.below.trans (hb.mono h.below.size), h.nn, h.ng⟩
theorem jdt.row {w0 W : World} {n g : Nat} {s s2 : Bk.St} {L V H L2 V2 H2 : Value} (h : jdt w0 W n g s L V H) (hr : BkRd W s2 L2 V2 H2) : jdt w0 (W.setRow g (Bk.cells s2 L2 V2 H2)) n g s2 L2 V2 H2 := by
 have hO : Only g W (W.setRow g (Bk.cells s2 L2 V2 H2)) := (Only.refl g W).row _
 have := h.ng
 have := h.nn
 exact ⟨hO.bk h.res (by omega), h.bk.setRow _ _ _ _, hO.rd hr h.bk h.rd.flat, hO.below h.below (by omega), h.nn, h.ng⟩
theorem jdt.other {w0 W : World} {n g g9 : Nat} {s : Bk.St} {L V H : Value} (h : jdt w0 W n g s L V H) {s9 : Bk.St} {L9 V9 H9 : Value} (h9 : BkAt W g9 s9 L9 V9 H9) (hf : jhq L9 V9 H9) (hne : g < g9) (cs : Array Value) : jdt w0 (W.setRow g9 cs) n g s L V H := by
 have hO : Only g9 W (W.setRow g9 cs) := (Only.refl g9 W).row _
 have := h.ng
 have := h.nn
 exact ⟨hO.bk h.res (by omega), hO.bk h.bk (by omega), hO.rd h.rd h9 hf, hO.below h.below (by omega), h.nn, h.ng⟩
theorem jaq {ops : Array Oper} {rest : List Oper} {op : Oper} {a : Act} {w : World} {Q : Exit → Act → World → Prop} (hgd : op.guard = none) (x : Operand) (ho : op.op = .load 53 x)
  (b o : Nat) (hx : a.eval x = .pointer (some ⟨b, o, none⟩)) (r : Rc.R) (hc : w.rangeAt b o (Rc.cells r).toList)
  (h : wpList Tryz.prog ops Q rest (a.put op.dst (.agg (Rc.cells r))) w) : wpList Tryz.prog ops Q (op :: rest) a w := by
 refine wpList_load_mid hgd 53 x ho b o hx (Rc.cells r).toList _ hc jai rfl (jam r) ?_
 rw [Array.toArray_toList]
 exact h
def jd9 (w : World) (N : Nat) (e : Ending) (w' : World) : Prop := ∃ A c l, e = .returned (.slice A l.length c) ∧ SlF Bk.rcC w' A l.length c l ∧ (∀ r ∈ l, Rc.In r) ∧ l.length ≤ N ∧ Below w.heap.size w w'
def Rc.txt_ (r : Rc.R) (t : ByteArray) : Rc.R := { r with text := t }
theorem ji8 {w : World} {g : Nat} {r : Rc.R} (h : RcAt w g r) (t : ByteArray) : RcAt (w.setCell ⟨g, 5, none⟩ (.string t)) g (Rc.txt_ r t) := ⟨heap_setCell_same w g 5 _ _ _ h.row⟩
theorem jhu (A : Option Addr) (k c most : Nat) (l : List Rc.R) (hin : ∀ r ∈ l, Rc.In r) (w : World) (hs : SlF Bk.rcC w A k c l) (hm : most ≤ 1000) : Calls Tryz.prog 12 #[.slice A k c, .int .i64 (most : Nat)] w (jd9 w most) := by
 have S0 := zh hs
 have HI := zh hin
 have HK := zh hs.len
 have hcap := hs.cap
 have hmax := hs.max
 have hov : OwF Bk.rcC 18 53 w w.heap.size (.slice none 0 0) [] := OwF.none_ _ _ _
 clear hs hin
 go_enter Tryz.func12, Tryz.ntmps12
 go_upto_region 2 with fail
 generalize hv0 : Value.slice none 0 0 = v0 at hov ⊢
 have OV := zh hov
 clear hov hv0
 go_wp2_with fail
 go_loopw [5, 6] (fun v i wr => ∃ (j : Nat) (ls : List Rc.R), j ≤ k ∧ j ≤ most ∧ i = .int .i64 j ∧ ls.length = j ∧ (∀ r ∈ ls, Rc.In r) ∧ OwF Bk.rcC 18 53 wr w.heap.size v ls ∧ Below w.heap.size w wr) (fun v i wr => k - (intOf i).toNat)
 case atStart => exact ⟨0, [], by omega, by omega, rfl, rfl, fun r h => (by cases h), OV.out, Below.refl _ _⟩
 case round =>
  obtain ⟨j, ls, hj, hjm, rfl, hll, hli, ho, hbr⟩ := hrel
  have O := zh ho
  have B := zh hbr
  have LI := zh hli
  have LL := zh hll
  clear ho hbr hli hll
  by_cases hlt : j < k ∧ j < most
  ·obtain ⟨hlt, hltm⟩ := hlt
   have hx : l[j]? = some (l[j]'(by have := HK.out; omega)) := List.getElem?_eq_getElem _
   generalize l[j]'(by have := HK.out; omega) = r at hx
   obtain ⟨b, o, rfl, hbl, hrg⟩ := jbl (S0.out.on B.out) hx
   have RG := zh hrg
   have IR : Hid (Rc.In r) := HI.out r (List.mem_of_getElem? hx)
   have q1 : ((j : Nat) : Int) < (k : Nat) := by omega
   have q2 : ((j : Nat) : Int) < (most : Nat) := by omega
   have i1 : (0 : Int) ≤ (j : Int) := by omega
   clear hx hrg
   go_upto_region 6 with (first
    | ((with_reducible show zL 22); refine jaq rfl (.tmp 21) rfl b (o + j * 18) (by simp [Act.eval, go_sem]) r RG.out ?_)
    | ((with_reducible show zW); refine jac rfl (.tmp 7) (.tmp 22) rfl wr.heap.size r Rc.none_ rfl rfl ⟨heap_alloc_new wr _⟩ ?_))
   rw [World.setRow_alloc_new]
   have RA := zh (RcAt.new wr r)
   have hb : Below wr.heap.size wr (wr.alloc (.cells (Rc.cells r) 53)) := (Below.refl _ _).alloc (Nat.le_refl _) _
   have GB : Hid (w.heap.size ≤ wr.heap.size) := B.out.size
   have O1 := zh (O.out.below hb)
   have GO : Hid (∀ k, u5.ownBlock = some k → k < wr.heap.size) := fun k hk => (O.out.lt k hk).2
   have B1 := zh (B.out.trans (hb.mono B.out.size))
   obtain ⟨g, hg⟩ : ∃ g, g = wr.heap.size := ⟨_, rfl⟩
   rw [← hg] at RA GB GO ⊢
   clear hg hb
   generalize wr.alloc (.cells (Rc.cells r) 53) = w1 at *
   have hm1 : min (r.text.size : Int) 70 = ((min r.text.size 70 : Nat) : Int) := by omega
   have hl1 : ((min r.text.size 70 : Nat) : Int) ≤ (r.text.size : Int) := by omega
   have TI : Hid (Rc.In (Rc.txt_ r (r.text.extract 0 (min r.text.size 70)))) := ⟨IR.out.nums, by show (r.text.extract 0 (min r.text.size 70)).size ≤ maxLen; have := IR.out.text; rw [ByteArray.size_extract]; omega, IR.out.sp⟩
   generalize min r.text.size 70 = mt at *
   obtain ⟨c0, c1, c2, c3, c4, c5, c6, c7, c8, c9, c10, c11, c12, c13, c14, c15, c16, c17, clt⟩ := RA.out.cs
   have hz := frozen_of_row w1 g 5 _ _ RA.out.row
   go_upto_region 7 with fail
   have RC := zh (ji8 RA.out (r.text.extract 0 mt))
   have O2 := zh (O1.out.keep (w' := w1.setCell ⟨g, 5, none⟩ (.string (r.text.extract 0 mt))) fun k hk => Below.heap_setCell _ _ _ _ (by have := GO.out k hk; show k ≠ g; omega))
   have B2 := zh (B1.out.setCell (p := ⟨g, 5, none⟩) GB.out (.string (r.text.extract 0 mt)))
   clear hm1 hl1 c0 c1 c2 c3 c4 c5 c6 c7 c8 c9 c10 c11 c12 c13 c14 c15 c16 c17 clt hz
   generalize w1.setCell ⟨g, 5, none⟩ (.string (r.text.extract 0 mt)) = w2 at *
   obtain ⟨r2, hr2⟩ : ∃ r2, r2 = Rc.txt_ r (r.text.extract 0 mt) := ⟨_, rfl⟩
   rw [← hr2] at RC TI
   clear hr2
   go_wp2_with (first
    | ((with_reducible show zL 32); refine zR (.tmp 7) RC.out ?_)
    | ((with_reducible show zB 33); refine jag Tryz.underlying22 jak (by omega) (by omega) rfl (.tmp 32) rfl (Rc.cells r2) rfl rfl ?_)
    | (at_builtin; refine jad Bk.rcC_len Bk.rcC_one Tryz.underlying22 jak rfl (by omega) rfl (.tmp 31) (.tmp 33) rfl w.heap.size u5 ls rfl O2.out r2 rfl (by have := LL.out; unfold maxLen; omega) (by have := LL.out; omega) B2.out.size ?_; intro v9 w9 ho9 hb9 _ _; have O9 := zh ho9; have B9 := zh (B2.out.trans hb9); clear ho9 hb9))
   refine ⟨⟨j + 1, ls ++ [r2], by omega, by omega, by go_num, by rw [List.length_append, List.length_singleton, LL.out], fun x hx => ?_, O9.out, B9.out⟩, by simp [intOf]; omega⟩
   rcases List.mem_append.1 hx with hx | hx
   ·exact LI.out x hx
   ·rw [List.mem_singleton.1 hx]; exact TI.out
  ·obtain ⟨AF, cF, rfl⟩ := O.out.form
   have hq : ¬ (j < k) ∨ ¬ (j < most) := by omega
   have FIN : Hid (SlF Bk.rcC wr AF ls.length cF ls ∧ ls.length ≤ most) := ⟨O.out.sl, by rw [LL.out]; omega⟩
   by_cases hjk : j < k
   ·have q1 : ((j : Nat) : Int) < (k : Nat) := by omega
    have q2 : ((most : Nat) : Int) ≤ (j : Nat) := by omega
    clear hq hlt
    go_wp2_with fail
    go_ret
    exact ⟨AF, cF, ls, rfl, FIN.out.1, LI.out, FIN.out.2, B.out⟩
   ·have q1 : ((k : Nat) : Int) ≤ (j : Nat) := by omega
    clear hq hlt
    go_wp2_with fail
    go_ret
    exact ⟨AF, cF, ls, rfl, FIN.out.1, LI.out, FIN.out.2, B.out⟩
def jgi (L V H : Value) (b : Nat) : Prop := ∃ A n c o, (L = .slice A n c ∨ V = .slice A n c ∨ H = .slice A n c) ∧ A = some ⟨b, o, none⟩ ∧ 0 < n
theorem jkx {W : World} {s : Bk.St} {L V H : Value} (h : BkRd W s L V H) {b : Nat} (hr : jgi L V H b) : b < W.heap.size := by
 obtain ⟨⟨A1, c1, e1, h1⟩, ⟨A2, c2, e2, h2⟩, ⟨A3, c3, e3, h3⟩⟩ := h
 obtain ⟨A, n, c, o, hx, ha, hp⟩ := hr
 rcases hx with e | e | e
 ·rw [e1] at e; injection e with x1 x2 x3; subst x1 x2 x3
  obtain ⟨b', o', e', hb, _⟩ := h1.rd hp
  rw [ha] at e'; injection e' with e'; injection e' with e' _; omega
 ·rw [e2] at e; injection e with x1 x2 x3; subst x1 x2 x3
  obtain ⟨b', o', e', hb, _⟩ := h2.rd hp
  rw [ha] at e'; injection e' with e'; injection e' with e' _; omega
 ·rw [e3] at e; injection e with x1 x2 x3; subst x1 x2 x3
  obtain ⟨b', o', e', hb, _⟩ := h3.rd hp
  rw [ha] at e'; injection e' with e'; injection e' with e' _; omega
theorem jgj {W : World} {L V H L2 V2 H2 : Value} (h : jfa W L V H L2 V2 H2) {b : Nat} (hr : jgi L2 V2 H2 b) : jgi L V H b ∨ W.heap.size ≤ b := by
 obtain ⟨A, n, c, o, hx, ha, hp⟩ := hr
 obtain ⟨h1, h2, h3⟩ := h
 rcases hx with e | e | e
 ·rcases h1 with h | h
  ·exact .inl ⟨A, n, c, o, .inl (h ▸ e), ha, hp⟩
  ·exact .inr (h A n c b o e ha hp)
 ·rcases h2 with h | h
  ·exact .inl ⟨A, n, c, o, .inr (.inl (h ▸ e)), ha, hp⟩
  ·exact .inr (h A n c b o e ha hp)
 ·rcases h3 with h | h
  ·exact .inl ⟨A, n, c, o, .inr (.inr (h ▸ e)), ha, hp⟩
  ·exact .inr (h A n c b o e ha hp)
theorem jfs {w w' : World} {g : Nat} {s : Bk.St} {L V H : Value} (h : BkRd w s L V H) (hg : w.grownBy w' (some g)) (hn : ¬ jgi L V H g) : BkRd w' s L V H :=
 h.kept hg fun A n c b o e1 e2 hp e3 => hn (e3 ▸ ⟨A, n, c, o, e1, e2, hp⟩)
theorem ja8 (w : World) (g : Nat) (cs : Array Value) : w.grownBy (w.setRow g cs) (some g) := ⟨rfl, rfl, rfl, by rw [jap]; exact Nat.le_refl _, fun k _ hk => jao _ _ (fun e => hk (by rw [e]))⟩
structure OnAt (w0 W : World) (g : Nat) (s : Bk.St) (L V H v : Value) (ls : List Rc.R) : Prop where
 bk : BkAt W g s L V H
 rd : BkRd W s L V H
 row : OwF Bk.rcC 18 53 W w0.heap.size v ls
 far : ∀ k, v.ownBlock = some k → k ≠ g ∧ ¬ jgi L V H k
 below : Below w0.heap.size w0 W
 ng : w0.heap.size ≤ g
 gn : ¬ jgi L V H g
section
variable {w0 W W' : World} {g : Nat} {s : Bk.St} {L V H v : Value} {ls : List Rc.R}
theorem OnAt.on (h : OnAt w0 W g s L V H v ls) (hb : Below W.heap.size W W') : OnAt w0 W' g s L V H v ls := ⟨h.bk.on hb, h.rd.on hb, h.row.below hb, h.far, h.below.trans (hb.mono h.below.size), h.ng, h.gn⟩
structure OnLow (n g : Nat) (L V H v : Value) : Prop where
 g : g < n
 v : ∀ k, v.ownBlock = some k → k < n
 r : ∀ b, jgi L V H b → b < n
theorem OnAt.low (h : OnAt w0 W g s L V H v ls) : OnLow W.heap.size g L V H v := ⟨h.bk.lt, fun k hk => (h.row.lt k hk).2, fun b hb => jkx h.rd hb⟩
theorem OnAt.other (h : OnAt w0 W g s L V H v ls) {n g8 : Nat} (lo : OnLow n g L V H v) (hg : n ≤ g8) (cs : Array Value) : OnAt w0 (W.setRow g8 cs) g s L V H v ls := by
 have h1 := lo.g
 have h2 := h.ng
 exact ⟨h.bk.keep (jao _ _ (by omega)), jfs h.rd (ja8 W g8 cs) (fun hr => by have := lo.r _ hr; omega), h.row.kept (ja8 W g8 cs) (fun e => by have := lo.v _ e; omega), h.far, h.below.trans ((Below.refl w0.heap.size W).grown (ja8 W g8 cs) h.below.size fun k e => by injection e with e; omega), h.ng, h.gn⟩
theorem OnAt.book (h : OnAt w0 W g s L V H v ls) {W1 : World} {s2 : Bk.St} {L2 V2 H2 : Value} (hr : BkRd W s2 L2 V2 H2) (hn : jfa W1 L V H L2 V2 H2) (lo : OnLow W1.heap.size g L V H v) : OnAt w0 (W.setRow g (Bk.cells s2 L2 V2 H2)) g s2 L2 V2 H2 v ls := by
 have gn : ¬ jgi L2 V2 H2 g := fun hx => by
  rcases jgj hn hx with h1 | h1
  ·exact h.gn h1
  ·have := lo.g; omega
 refine ⟨h.bk.setRow _ _ _ _, jfs hr (ja8 W g _) gn, h.row.kept (ja8 W g _) (fun e => (h.far _ e).1 rfl), fun k hk => ⟨(h.far k hk).1, fun hx => ?_⟩, h.below.trans ((Below.refl w0.heap.size W).grown (ja8 W g _) h.below.size fun k e => by injection e with e; have := h.ng; omega), h.ng, gn⟩
 rcases jgj hn hx with h1 | h1
 ·exact (h.far k hk).2 h1
 ·have := lo.v k hk; omega
theorem OnAt.push (h : OnAt w0 W g s L V H v ls) {v2 : Value} {l2 : List Rc.R} (ho : OwF Bk.rcC 18 53 W' w0.heap.size v2 l2) (hb : Below w0.heap.size W W') (hg : W.grownBy W' v.ownBlock) (hv : v2.ownBlock = v.ownBlock ∨ ∃ k, v2.ownBlock = some k ∧ W.heap.size ≤ k) : OnAt w0 W' g s L V H v2 l2 := by
 have hrd : BkRd W' s L V H := by
  cases hk : v.ownBlock with
  | none => rw [hk] at hg; exact h.rd.on ((Below.refl W.heap.size W).grown hg (Nat.le_refl _) fun k e => by cases e)
  | some k => rw [hk] at hg; exact jfs h.rd hg (h.far k hk).2
 refine ⟨h.bk.keep (hg.block g h.bk.lt fun e => (h.far g e.symm).1 rfl), hrd, ho, fun k hk => ?_, h.below.trans hb, h.ng, h.gn⟩
 rcases hv with e | ⟨k2, e, hk2⟩
 ·exact h.far k (e ▸ hk)
 ·rw [e] at hk
  injection hk with hk
  subst hk
  exact ⟨fun e => by have := h.bk.lt; omega, fun hx => by have := jkx h.rd hx; omega⟩
end
theorem jnm (m : Int) (A : Option Addr) (k c : Nat) (l : List Rc.R) (hin : ∀ r ∈ l, Rc.In r) (w : World) (hs : SlF Bk.rcC w A k c l) (hk : k ≤ 1000) : Calls Tryz.prog 13 #[.int .i64 m, .slice A k c] w (jd9 w k) := by
 have hz := ja9
 have CN := zh (fun W => jgh m W)
 have CX : Hid (∀ s, Bk.Ok s → ∀ r, Rc.In r → ∀ L V H W, BkRd W s L V H → Calls Tryz.prog 32 #[.agg (Bk.cells s L V H), .agg (Rc.cells r)] W (jig W)) := fun s ok r hr L V H W h => jht s ok r hr L V H W h
 have CA : Hid (∀ s, Bk.Ok s → ∀ r, Rc.In r → ∀ L V H W, BkRd W s L V H → Calls Tryz.prog 33 #[.agg (Bk.cells s L V H), .agg (Rc.cells r)] W (jb0 L V H W (Bk.app s r) (.int .i64 (Bk.chk s r)))) := fun s ok r hr L V H W h => jgg s ok r hr L V H W h
 have S0 := zh hs
 have HI := zh hin
 have HK := zh hs.len
 have hcap := hs.cap
 have hmax := hs.max
 clear hs hin
 go_enter Tryz.func13, Tryz.ntmps13
 go_upto_region 2 with fail
 generalize hv0 : Value.slice none 0 0 = v0
 have HV := zh hv0
 clear hv0
 go_upto_region 3 with (first
  | (go_at_call 31; (with_reducible refine (CN.out _).mono ?_); rintro e w2 ⟨L, V, H, rfl, hrd, hb⟩; have B2 := zh hb; have RD := zh hrd; have Z2 := zh (BkAt.zero w2); clear hb hrd)
  | ((with_reducible show zW); refine jab rfl (.tmp 6) (.tmp 12) rfl rfl rfl Z2.out RD.out.one ?_))
 rw [World.setRow_alloc_new]
 have hA : OnAt w (w2.alloc (.cells (Bk.cells (Bk.new m) L V H) 40)) w2.heap.size (Bk.new m) L V H v0 [] := by
  have hb : Below w2.heap.size w2 (w2.alloc (.cells (Bk.cells (Bk.new m) L V H) 40)) := (Below.refl _ _).alloc (Nat.le_refl _) _
  exact ⟨BkAt.new _ _ _ _ _, RD.out.on hb, HV.out ▸ OwF.none_ _ _ _, fun k hk => (by rw [← HV.out] at hk; cases hk), B2.out.trans (hb.mono B2.out.size), B2.out.size, fun hr => by have := jkx RD.out hr; omega⟩
 generalize w2.alloc (.cells (Bk.cells (Bk.new m) L V H) 40) = w3 at *
 generalize w2.heap.size = g at *
 have A3 := zh hA
 clear hA RD B2 CN HV
 go_wp2_with fail
 go_loopw [5, 7] (fun v i wr => ∃ (j : Nat) (ls : List Rc.R) (s : Bk.St) (L V H : Value), j ≤ k ∧ i = .int .i64 j ∧ ls.length = j ∧ (∀ r ∈ ls, Rc.In r) ∧ Bk.Ok s ∧ OnAt w wr g s L V H v ls) (fun v i wr => k - (intOf i).toNat)
 case atStart => exact ⟨0, [], _, L, V, H, by omega, rfl, rfl, fun r h => (by cases h), Bk.new_ok m, A3.out⟩
 case round =>
  clear A3
  obtain ⟨j, ls, s, L, V, H, hj, rfl, hll, hli, hok, ho⟩ := hrel
  have AA := zh ho
  have LI := zh hli
  have LL := zh hll
  have OK := zh hok
  clear ho hli hll hok
  have i1 : (0 : Int) ≤ (j : Int) := by omega
  have i3 : ((k : Nat) : Int) ≤ 1000 := by omega
  by_cases hlt : j < k
  ·have hx : l[j]? = some (l[j]'(by have := HK.out; omega)) := List.getElem?_eq_getElem _
   generalize l[j]'(by have := HK.out; omega) = r at hx
   have HR : Hid (Rc.In r) := HI.out r (List.mem_of_getElem? hx)
   obtain ⟨b, o, rfl, hbl, hrg⟩ := jbl S0.out hx
   have RG := zh hrg
   have HB := zh hbl
   have i2 : (j : Int) < (k : Int) := by omega
   have LO := zh AA.out.low
   have HLT := zh hlt
   clear hx hrg hbl hlt
   obtain ⟨n8, hn8⟩ : ∃ n8, n8 = wr.heap.size := ⟨_, rfl⟩
   have N8 := zh hn8
   rw [← hn8] at LO
   clear hn8
   go_upto_region 6 with fail
   refine wp_region_held_drew (S := fun W => OnAt w W g s L V H u5 ls ∧ n8 ≤ W.heap.size) (by kernel_rfl) ⟨AA.out.on (Below.refl _ _).drew, Nat.le_of_eq N8.out⟩ (fun hS => ?_)
   refine tZ 0 (v := .agg (Bk.cells s L V H)) rfl (fun W hW => jkw (.tmp 6) rfl g s L V H rfl hW.1.bk) hS ?_
   refine tY 1 hS ?_
   refine tY 2 hS ?_
   refine tY 3 hS ?_
   refine tZ 4 (v := .agg (Rc.cells r)) rfl (fun W hW => jcw (.tmp 22) rfl b (o + j * 18) r (by simp [Act.eval, go_sem]) (jbg RG.out (hW.1.below.block b HB.out))) hS ?_
   simp only [Act.put, zT, zO, zS]
   refine jdp 5 6 rfl rfl (by kernel_rfl) rfl rfl (fun K hK => ?_) (fun K hK => ?_)
   ·go_simp
    with_reducible refine (CX.out s OK.out r HR.out L V H _ hS.1.rd).mono ?_
    rintro e w5 ⟨r2, rfl, hr2, hb⟩
    have hS2 := hS.1.on hb
    have hn2 := Nat.le_trans hS.2 hb.size
    have HR2 := zh hr2
    clear hS hb hr2
    have hS := And.intro hS2 hn2
    clear hS2 hn2
    refine hK.out _ _ hS (fun _ => ?_)
    clear hK K
    try simp only [Act.put, zT, zO, zS]
    refine rO 6 (fun K hK => ?_)
    go_simp
    have hb8 : Below w5.heap.size w5 (w5.alloc (.cells #[.int .i64 0, .int .i64 0, .int .i64 0, .int .i64 0, .int .i64 0, .string ⟨#[]⟩, .int .i64 0, .int .i64 0, .int .i64 0, .int .i64 0, .int .i64 0, .int .i64 0, .int .i64 0, .int .i64 0, .int .i64 0, .int .i64 0, .int .i64 0, .int .i64 0] 53)) := (Below.refl _ _).alloc (Nat.le_refl _) _
    have hS2 := hS.1.on hb8
    have hn2 := Nat.le_trans hS.2 hb8.size
    have hZ8 : RcAt (w5.alloc (.cells #[.int .i64 0, .int .i64 0, .int .i64 0, .int .i64 0, .int .i64 0, .string ⟨#[]⟩, .int .i64 0, .int .i64 0, .int .i64 0, .int .i64 0, .int .i64 0, .int .i64 0, .int .i64 0, .int .i64 0, .int .i64 0, .int .i64 0, .int .i64 0, .int .i64 0] 53)) w5.heap.size Rc.none_ := ⟨heap_alloc_new w5 _⟩
    have hG8 : n8 ≤ w5.heap.size := hS.2
    obtain ⟨g8, hg8⟩ : ∃ g8, g8 = w5.heap.size := ⟨_, rfl⟩
    rw [← hg8] at hZ8 hG8
    rw [← hg8]
    clear hg8 hb8
    generalize w5.alloc (.cells #[.int .i64 0, .int .i64 0, .int .i64 0, .int .i64 0, .int .i64 0, .string ⟨#[]⟩, .int .i64 0, .int .i64 0, .int .i64 0, .int .i64 0, .int .i64 0, .int .i64 0, .int .i64 0, .int .i64 0, .int .i64 0, .int .i64 0, .int .i64 0, .int .i64 0] 53) = w8 at hS2 hZ8 hn2 ⊢
    have Z8 := zh hZ8
    have G8 := zh hG8
    clear hS hZ8 hG8
    have hS := And.intro hS2 hn2
    clear hS2 hn2
    refine hK.out _ _ hS (fun _ => ?_)
    clear hK K
    try simp only [Act.put, zT, zO, zS]
    refine rO 7 (fun K hK => ?_)
    refine wp_store_row 53 (.tmp 8) (.tmp 24) rfl g8 (Rc.cells r2) rfl rfl 53 _ Z8.out.row (jam r2) rfl (Rc.one_cell r2) ?_
    have hS2 := hS.1.other LO.out G8.out (Rc.cells r2)
    have hn2 : n8 ≤ (w8.setRow g8 (Rc.cells r2)).heap.size := by rw [jap]; exact hS.2
    have hZ2 : RcAt (w8.setRow g8 (Rc.cells r2)) g8 r2 := ⟨setRow_heap _ g8 _ _ _ _ Z8.out.row⟩
    generalize w8.setRow g8 (Rc.cells r2) = wz at hS2 hn2 hZ2 ⊢
    have ZZ := zh hZ2
    clear hS hZ2 Z8
    have hS := And.intro hS2 hn2
    clear hS2 hn2
    refine hK.out _ _ hS (fun _ => ?_)
    clear hK K
    try simp only [Act.put, zT, zO, zS]
    refine wpAnyH_done (by kernel_rfl) ?_ _
    have A5 := zh hS.1
    have Z5 := ZZ
    clear hS ZZ CX
    obtain ⟨bb, hbb⟩ : ∃ bb, ((j : Int) % 9 == 8) = bb := ⟨_, rfl⟩
    cases bb with
    | true =>
     have RG5 := zh (jbg RG.out (A5.out.below.block b HB.out))
     go_upto_region 9 with (first
      | ((with_reducible show zL 31); refine jaq rfl (.tmp 30) rfl b (o + j * 18) (by simp [Act.eval, go_sem]) r RG5.out ?_)
      | ((with_reducible show zW); refine jac rfl (.tmp 8) (.tmp 31) rfl g8 r r2 rfl rfl Z5.out ?_))
     have A5 := zh (A5.out.other LO.out G8.out (Rc.cells r))
     have Z5 : Hid (RcAt (wz.setRow g8 (Rc.cells r)) g8 r) := ⟨setRow_heap _ g8 _ _ _ _ Z5.out.row⟩
     clear RG5 RG HR2
     generalize wz.setRow g8 (Rc.cells r) = w4 at *
     go_upto_region 10 with (first
      | ((with_reducible show zL 33); refine jaa rfl (.tmp 6) rfl rfl A5.out.bk ?_)
      | ((with_reducible show zL 34); refine zR (.tmp 8) Z5.out ?_)
      | (go_at_call 33; (with_reducible refine (CA.out s OK.out r HR.out L V H _ A5.out.rd).mono ?_); rintro e w6 ⟨L2, V2, H2, rfl, hrd, hb, hnew⟩; have NW := zh hnew; have RD6 := zh hrd; have LO9 := zh A5.out.low; have A6 := zh (A5.out.on hb); have Z6 := zh (RcAt.on Z5.out hb); have X6 := zh (BkAt.zero w6); clear hnew hrd hb A5 Z5)
      | ((with_reducible show zW); refine jab rfl (.tmp 9) (.tmp 36) rfl rfl rfl X6.out RD6.out.one ?_))
     rw [World.setRow_alloc_new]
     have hb9 : Below w6.heap.size w6 (w6.alloc (.cells (Bk.cells (Bk.app s r) L2 V2 H2) 40)) := (Below.refl _ _).alloc (Nat.le_refl _) _
     have A7 := zh (A6.out.on hb9)
     have RD7 := zh (RD6.out.on hb9)
     have Z7 := zh (RcAt.on Z6.out hb9)
     have K9 := zh (BkAt.new w6 (Bk.app s r) L2 V2 H2)
     have NW7 := zh NW.out
     clear hb9 A6 RD6 Z6 NW
     generalize w6.alloc (.cells (Bk.cells (Bk.app s r) L2 V2 H2) 40) = w7 at *
     generalize w6.heap.size = g9 at *
     go_upto_region 11 with (first
      | ((with_reducible show zL 38); refine jaa rfl (.tmp 9) rfl rfl K9.out ?_)
      | ((with_reducible show zW); refine jab rfl (.tmp 6) (.tmp 38) rfl rfl rfl A7.out.bk RD7.out.one ?_))
     have A8 := zh (A7.out.book RD7.out NW7.out LO9.out)
     have Z8 : Hid (RcAt (w7.setRow g (Bk.cells (Bk.app s r) L2 V2 H2)) g8 r) := ⟨(jao _ _ (fun e => by have := LO.out.g; have := G8.out; omega)).trans Z7.out.row⟩
     have OK2 : Hid (Bk.Ok (Bk.app s r)) := Bk.app_okay OK.out
     clear A7 RD7 Z7 K9 NW7
     generalize w7.setRow g (Bk.cells (Bk.app s r) L2 V2 H2) = w8 at *
     generalize Bk.app s r = s2 at *
     go_wp2_with (first
      | ((with_reducible show zL 40); refine zR (.tmp 8) Z8.out ?_)
      | ((with_reducible show zB 41); refine jag Tryz.underlying22 jak (by omega) (by omega) rfl (.tmp 40) rfl (Rc.cells r) rfl rfl ?_)
      | (at_builtin; refine jad Bk.rcC_len Bk.rcC_one Tryz.underlying22 jak rfl (by omega) rfl (.tmp 39) (.tmp 41) rfl w.heap.size _ ls rfl A8.out.row r rfl (by have := LL.out; unfold maxLen; omega) (by have := LL.out; omega) A8.out.below.size ?_; intro v9 w9 ho9 hb9 hg9 hv9; have A9 := zh (A8.out.push ho9 hb9 hg9 hv9); clear ho9 hb9 hg9 hv9))
     refine ⟨⟨j + 1, ls ++ [r], s2, L2, V2, H2, by have := HLT.out; omega, by go_num, by rw [List.length_append, List.length_singleton, LL.out], fun x hx => ?_, OK2.out, A9.out⟩, by simp [intOf]; have := HLT.out; omega⟩
     rcases List.mem_append.1 hx with hx | hx
     ·exact LI.out x hx
     ·rw [List.mem_singleton.1 hx]; exact HR.out
    | false =>
     clear RG HR
     go_upto_region 9 with fail
     go_upto_region 10 with (first
      | ((with_reducible show zL 33); refine jaa rfl (.tmp 6) rfl rfl A5.out.bk ?_)
      | ((with_reducible show zL 34); refine zR (.tmp 8) Z5.out ?_)
      | (go_at_call 33; (with_reducible refine (CA.out s OK.out r2 HR2.out L V H _ A5.out.rd).mono ?_); rintro e w6 ⟨L2, V2, H2, rfl, hrd, hb, hnew⟩; have NW := zh hnew; have RD6 := zh hrd; have LO9 := zh A5.out.low; have A6 := zh (A5.out.on hb); have Z6 := zh (RcAt.on Z5.out hb); have X6 := zh (BkAt.zero w6); clear hnew hrd hb A5 Z5)
      | ((with_reducible show zW); refine jab rfl (.tmp 9) (.tmp 36) rfl rfl rfl X6.out RD6.out.one ?_))
     rw [World.setRow_alloc_new]
     have hb9 : Below w6.heap.size w6 (w6.alloc (.cells (Bk.cells (Bk.app s r2) L2 V2 H2) 40)) := (Below.refl _ _).alloc (Nat.le_refl _) _
     have A7 := zh (A6.out.on hb9)
     have RD7 := zh (RD6.out.on hb9)
     have Z7 := zh (RcAt.on Z6.out hb9)
     have K9 := zh (BkAt.new w6 (Bk.app s r2) L2 V2 H2)
     have NW7 := zh NW.out
     clear hb9 A6 RD6 Z6 NW
     generalize w6.alloc (.cells (Bk.cells (Bk.app s r2) L2 V2 H2) 40) = w7 at *
     generalize w6.heap.size = g9 at *
     go_upto_region 11 with (first
      | ((with_reducible show zL 38); refine jaa rfl (.tmp 9) rfl rfl K9.out ?_)
      | ((with_reducible show zW); refine jab rfl (.tmp 6) (.tmp 38) rfl rfl rfl A7.out.bk RD7.out.one ?_))
     have A8 := zh (A7.out.book RD7.out NW7.out LO9.out)
     have Z8 : Hid (RcAt (w7.setRow g (Bk.cells (Bk.app s r2) L2 V2 H2)) g8 r2) := ⟨(jao _ _ (fun e => by have := LO.out.g; have := G8.out; omega)).trans Z7.out.row⟩
     have OK2 : Hid (Bk.Ok (Bk.app s r2)) := Bk.app_okay OK.out
     clear A7 RD7 Z7 K9 NW7
     generalize w7.setRow g (Bk.cells (Bk.app s r2) L2 V2 H2) = w8 at *
     generalize Bk.app s r2 = s2 at *
     go_wp2_with (first
      | ((with_reducible show zL 40); refine zR (.tmp 8) Z8.out ?_)
      | ((with_reducible show zB 41); refine jag Tryz.underlying22 jak (by omega) (by omega) rfl (.tmp 40) rfl (Rc.cells r2) rfl rfl ?_)
      | (at_builtin; refine jad Bk.rcC_len Bk.rcC_one Tryz.underlying22 jak rfl (by omega) rfl (.tmp 39) (.tmp 41) rfl w.heap.size _ ls rfl A8.out.row r2 rfl (by have := LL.out; unfold maxLen; omega) (by have := LL.out; omega) A8.out.below.size ?_; intro v9 w9 ho9 hb9 hg9 hv9; have A9 := zh (A8.out.push ho9 hb9 hg9 hv9); clear ho9 hb9 hg9 hv9))
     refine ⟨⟨j + 1, ls ++ [r2], s2, L2, V2, H2, by have := HLT.out; omega, by go_num, by rw [List.length_append, List.length_singleton, LL.out], fun x hx => ?_, OK2.out, A9.out⟩, by simp [intOf]; have := HLT.out; omega⟩
     rcases List.mem_append.1 hx with hx | hx
     ·exact LI.out x hx
     ·rw [List.mem_singleton.1 hx]; exact HR2.out
   ·go_simp
    have hb8 : Below wr.drew.heap.size wr.drew ((wr.alloc (.cells #[.int .i64 0, .int .i64 0, .int .i64 0, .int .i64 0, .int .i64 0, .string ⟨#[]⟩, .int .i64 0, .int .i64 0, .int .i64 0, .int .i64 0, .int .i64 0, .int .i64 0, .int .i64 0, .int .i64 0, .int .i64 0, .int .i64 0, .int .i64 0, .int .i64 0] 53)).drew) := (Below.refl wr.drew.heap.size wr.drew).alloc (Nat.le_refl _) _
    have hS2 := hS.1.on hb8
    have hn2 := Nat.le_trans hS.2 hb8.size
    have hZ8 : RcAt ((wr.alloc (.cells #[.int .i64 0, .int .i64 0, .int .i64 0, .int .i64 0, .int .i64 0, .string ⟨#[]⟩, .int .i64 0, .int .i64 0, .int .i64 0, .int .i64 0, .int .i64 0, .int .i64 0, .int .i64 0, .int .i64 0, .int .i64 0, .int .i64 0, .int .i64 0, .int .i64 0] 53)).drew) wr.heap.size Rc.none_ := ⟨heap_alloc_new wr _⟩
    have hG8 : n8 ≤ wr.heap.size := hS.2
    obtain ⟨g8, hg8⟩ : ∃ g8, g8 = wr.heap.size := ⟨_, rfl⟩
    rw [← hg8] at hZ8 hG8
    rw [← hg8]
    clear hg8 hb8
    generalize (wr.alloc (.cells #[.int .i64 0, .int .i64 0, .int .i64 0, .int .i64 0, .int .i64 0, .string ⟨#[]⟩, .int .i64 0, .int .i64 0, .int .i64 0, .int .i64 0, .int .i64 0, .int .i64 0, .int .i64 0, .int .i64 0, .int .i64 0, .int .i64 0, .int .i64 0, .int .i64 0] 53)).drew = w8 at hS2 hZ8 hn2 ⊢
    have Z8 := zh hZ8
    have G8 := zh hG8
    clear hS hZ8 hG8
    have hS := And.intro hS2 hn2
    clear hS2 hn2
    refine hK.out _ _ hS (fun _ => ?_)
    clear hK K
    try simp only [Act.put, zT, zO, zS]
    refine rO 5 (fun K hK => ?_)
    go_simp
    with_reducible refine (CX.out s OK.out r HR.out L V H _ hS.1.rd).mono ?_
    rintro e w5 ⟨r2, rfl, hr2, hb⟩
    have hS2 := hS.1.on hb
    have hn2 := Nat.le_trans hS.2 hb.size
    have HR2 := zh hr2
    have Z8 := zh (RcAt.on Z8.out hb)
    clear hS hb hr2
    have hS := And.intro hS2 hn2
    clear hS2 hn2
    refine hK.out _ _ hS (fun _ => ?_)
    clear hK K
    try simp only [Act.put, zT, zO, zS]
    refine rO 7 (fun K hK => ?_)
    refine wp_store_row 53 (.tmp 8) (.tmp 24) rfl g8 (Rc.cells r2) rfl rfl 53 _ Z8.out.row (jam r2) rfl (Rc.one_cell r2) ?_
    have hS2 := hS.1.other LO.out G8.out (Rc.cells r2)
    have hn2 : n8 ≤ (w5.setRow g8 (Rc.cells r2)).heap.size := by rw [jap]; exact hS.2
    have hZ2 : RcAt (w5.setRow g8 (Rc.cells r2)) g8 r2 := ⟨setRow_heap _ g8 _ _ _ _ Z8.out.row⟩
    generalize w5.setRow g8 (Rc.cells r2) = wz at hS2 hn2 hZ2 ⊢
    have ZZ := zh hZ2
    clear hS hZ2 Z8
    have hS := And.intro hS2 hn2
    clear hS2 hn2
    refine hK.out _ _ hS (fun _ => ?_)
    clear hK K
    try simp only [Act.put, zT, zO, zS]
    refine wpAnyH_done (by kernel_rfl) ?_ _
    have A5 := zh hS.1
    have Z5 := ZZ
    clear hS ZZ CX
    obtain ⟨bb, hbb⟩ : ∃ bb, ((j : Int) % 9 == 8) = bb := ⟨_, rfl⟩
    cases bb with
    | true =>
     have RG5 := zh (jbg RG.out (A5.out.below.block b HB.out))
     go_upto_region 9 with (first
      | ((with_reducible show zL 31); refine jaq rfl (.tmp 30) rfl b (o + j * 18) (by simp [Act.eval, go_sem]) r RG5.out ?_)
      | ((with_reducible show zW); refine jac rfl (.tmp 8) (.tmp 31) rfl g8 r r2 rfl rfl Z5.out ?_))
     have A5 := zh (A5.out.other LO.out G8.out (Rc.cells r))
     have Z5 : Hid (RcAt (wz.setRow g8 (Rc.cells r)) g8 r) := ⟨setRow_heap _ g8 _ _ _ _ Z5.out.row⟩
     clear RG5 RG HR2
     generalize wz.setRow g8 (Rc.cells r) = w4 at *
     go_upto_region 10 with (first
      | ((with_reducible show zL 33); refine jaa rfl (.tmp 6) rfl rfl A5.out.bk ?_)
      | ((with_reducible show zL 34); refine zR (.tmp 8) Z5.out ?_)
      | (go_at_call 33; (with_reducible refine (CA.out s OK.out r HR.out L V H _ A5.out.rd).mono ?_); rintro e w6 ⟨L2, V2, H2, rfl, hrd, hb, hnew⟩; have NW := zh hnew; have RD6 := zh hrd; have LO9 := zh A5.out.low; have A6 := zh (A5.out.on hb); have Z6 := zh (RcAt.on Z5.out hb); have X6 := zh (BkAt.zero w6); clear hnew hrd hb A5 Z5)
      | ((with_reducible show zW); refine jab rfl (.tmp 9) (.tmp 36) rfl rfl rfl X6.out RD6.out.one ?_))
     rw [World.setRow_alloc_new]
     have hb9 : Below w6.heap.size w6 (w6.alloc (.cells (Bk.cells (Bk.app s r) L2 V2 H2) 40)) := (Below.refl _ _).alloc (Nat.le_refl _) _
     have A7 := zh (A6.out.on hb9)
     have RD7 := zh (RD6.out.on hb9)
     have Z7 := zh (RcAt.on Z6.out hb9)
     have K9 := zh (BkAt.new w6 (Bk.app s r) L2 V2 H2)
     have NW7 := zh NW.out
     clear hb9 A6 RD6 Z6 NW
     generalize w6.alloc (.cells (Bk.cells (Bk.app s r) L2 V2 H2) 40) = w7 at *
     generalize w6.heap.size = g9 at *
     go_upto_region 11 with (first
      | ((with_reducible show zL 38); refine jaa rfl (.tmp 9) rfl rfl K9.out ?_)
      | ((with_reducible show zW); refine jab rfl (.tmp 6) (.tmp 38) rfl rfl rfl A7.out.bk RD7.out.one ?_))
     have A8 := zh (A7.out.book RD7.out NW7.out LO9.out)
     have Z8 : Hid (RcAt (w7.setRow g (Bk.cells (Bk.app s r) L2 V2 H2)) g8 r) := ⟨(jao _ _ (fun e => by have := LO.out.g; have := G8.out; omega)).trans Z7.out.row⟩
     have OK2 : Hid (Bk.Ok (Bk.app s r)) := Bk.app_okay OK.out
     clear A7 RD7 Z7 K9 NW7
     generalize w7.setRow g (Bk.cells (Bk.app s r) L2 V2 H2) = w8 at *
     generalize Bk.app s r = s2 at *
     go_wp2_with (first
      | ((with_reducible show zL 40); refine zR (.tmp 8) Z8.out ?_)
      | ((with_reducible show zB 41); refine jag Tryz.underlying22 jak (by omega) (by omega) rfl (.tmp 40) rfl (Rc.cells r) rfl rfl ?_)
      | (at_builtin; refine jad Bk.rcC_len Bk.rcC_one Tryz.underlying22 jak rfl (by omega) rfl (.tmp 39) (.tmp 41) rfl w.heap.size _ ls rfl A8.out.row r rfl (by have := LL.out; unfold maxLen; omega) (by have := LL.out; omega) A8.out.below.size ?_; intro v9 w9 ho9 hb9 hg9 hv9; have A9 := zh (A8.out.push ho9 hb9 hg9 hv9); clear ho9 hb9 hg9 hv9))
     refine ⟨⟨j + 1, ls ++ [r], s2, L2, V2, H2, by have := HLT.out; omega, by go_num, by rw [List.length_append, List.length_singleton, LL.out], fun x hx => ?_, OK2.out, A9.out⟩, by simp [intOf]; have := HLT.out; omega⟩
     rcases List.mem_append.1 hx with hx | hx
     ·exact LI.out x hx
     ·rw [List.mem_singleton.1 hx]; exact HR.out
    | false =>
     clear RG HR
     go_upto_region 9 with fail
     go_upto_region 10 with (first
      | ((with_reducible show zL 33); refine jaa rfl (.tmp 6) rfl rfl A5.out.bk ?_)
      | ((with_reducible show zL 34); refine zR (.tmp 8) Z5.out ?_)
      | (go_at_call 33; (with_reducible refine (CA.out s OK.out r2 HR2.out L V H _ A5.out.rd).mono ?_); rintro e w6 ⟨L2, V2, H2, rfl, hrd, hb, hnew⟩; have NW := zh hnew; have RD6 := zh hrd; have LO9 := zh A5.out.low; have A6 := zh (A5.out.on hb); have Z6 := zh (RcAt.on Z5.out hb); have X6 := zh (BkAt.zero w6); clear hnew hrd hb A5 Z5)
      | ((with_reducible show zW); refine jab rfl (.tmp 9) (.tmp 36) rfl rfl rfl X6.out RD6.out.one ?_))
     rw [World.setRow_alloc_new]
     have hb9 : Below w6.heap.size w6 (w6.alloc (.cells (Bk.cells (Bk.app s r2) L2 V2 H2) 40)) := (Below.refl _ _).alloc (Nat.le_refl _) _
     have A7 := zh (A6.out.on hb9)
     have RD7 := zh (RD6.out.on hb9)
     have Z7 := zh (RcAt.on Z6.out hb9)
     have K9 := zh (BkAt.new w6 (Bk.app s r2) L2 V2 H2)
     have NW7 := zh NW.out
     clear hb9 A6 RD6 Z6 NW
     generalize w6.alloc (.cells (Bk.cells (Bk.app s r2) L2 V2 H2) 40) = w7 at *
     generalize w6.heap.size = g9 at *
     go_upto_region 11 with (first
      | ((with_reducible show zL 38); refine jaa rfl (.tmp 9) rfl rfl K9.out ?_)
      | ((with_reducible show zW); refine jab rfl (.tmp 6) (.tmp 38) rfl rfl rfl A7.out.bk RD7.out.one ?_))
     have A8 := zh (A7.out.book RD7.out NW7.out LO9.out)
     have Z8 : Hid (RcAt (w7.setRow g (Bk.cells (Bk.app s r2) L2 V2 H2)) g8 r2) := ⟨(jao _ _ (fun e => by have := LO.out.g; have := G8.out; omega)).trans Z7.out.row⟩
     have OK2 : Hid (Bk.Ok (Bk.app s r2)) := Bk.app_okay OK.out
     clear A7 RD7 Z7 K9 NW7
     generalize w7.setRow g (Bk.cells (Bk.app s r2) L2 V2 H2) = w8 at *
     generalize Bk.app s r2 = s2 at *
     go_wp2_with (first
      | ((with_reducible show zL 40); refine zR (.tmp 8) Z8.out ?_)
      | ((with_reducible show zB 41); refine jag Tryz.underlying22 jak (by omega) (by omega) rfl (.tmp 40) rfl (Rc.cells r2) rfl rfl ?_)
      | (at_builtin; refine jad Bk.rcC_len Bk.rcC_one Tryz.underlying22 jak rfl (by omega) rfl (.tmp 39) (.tmp 41) rfl w.heap.size _ ls rfl A8.out.row r2 rfl (by have := LL.out; unfold maxLen; omega) (by have := LL.out; omega) A8.out.below.size ?_; intro v9 w9 ho9 hb9 hg9 hv9; have A9 := zh (A8.out.push ho9 hb9 hg9 hv9); clear ho9 hb9 hg9 hv9))
     refine ⟨⟨j + 1, ls ++ [r2], s2, L2, V2, H2, by have := HLT.out; omega, by go_num, by rw [List.length_append, List.length_singleton, LL.out], fun x hx => ?_, OK2.out, A9.out⟩, by simp [intOf]; have := HLT.out; omega⟩
     rcases List.mem_append.1 hx with hx | hx
     ·exact LI.out x hx
     ·rw [List.mem_singleton.1 hx]; exact HR2.out
  ·have i2 : (k : Int) ≤ (j : Int) := by omega
   obtain ⟨AF, cF, rfl⟩ := AA.out.row.form
   have FIN : Hid (SlF Bk.rcC wr AF ls.length cF ls ∧ ls.length ≤ k ∧ Below w.heap.size w wr) := ⟨AA.out.row.sl, by rw [LL.out]; exact hj, AA.out.below⟩
   clear hlt CX CA
   go_wp2_with fail
   go_ret
   exact ⟨AF, cF, ls, rfl, FIN.out.1, LI.out, FIN.out.2.1, FIN.out.2.2⟩
end Go.Proofs.YtnacjhnfkkddcaaGreatDoor
