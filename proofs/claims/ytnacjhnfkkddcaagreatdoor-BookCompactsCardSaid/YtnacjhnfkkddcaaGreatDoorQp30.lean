import Derived.Test.YtnacjhnfkkddcaaGreatDoorQp29
set_option maxHeartbeats 6400000
set_option maxRecDepth 100000
set_option linter.unusedSimpArgs false
set_option linter.unusedVariables false
namespace Go.Proofs.YtnacjhnfkkddcaaGreatDoor
open Go Go.RowKit Go.Deep
theorem jby {n : Int} (h : (Lit.int .i64 n).wf = true) : -9223372036854775808 ≤ n ∧ n ≤ 9223372036854775807 := by
 simp [Lit.wf, IntKind.min, IntKind.max, IntKind.signed, IntKind.bits] at h
 omega
def ERc (_ : World) (cs : List Value) (r : Rc.R) : Prop := cs = Bk.rcC r ∧ Rc.In r
theorem jmr {H : Type} {enc : TypeId × Value → H} {w : World} {held : Bool} (f : Nat) (cs : List Value) (y : DataW H × List MemPlace) (h : DataW.trod enc Tryz.prog w 0 (fun _ => true) held f 35 cs = some y) (hl : cs.length = 12) : ∃ s : Spc.Sp, cs = [.int .i64 s.v, .int .i64 s.d, .int .i64 s.u, .int .i64 s.n, .int .i64 s.g, .int .i64 s.a, .int .i64 s.b, .int .i64 s.c, .int .i64 s.e, .int .i64 s.w, .int .i64 s.x, .int .i64 s.k] ∧ Spc.In s := by
 obtain ⟨xs, n, _, _, _, hxl, hf⟩ := DataW.trod_struct Tryz.underlying35 h
 match cs, hl with
 | [a0, a1, a2, a3, a4, a5, a6, a7, a8, a9, a10, a11], _ =>
  have hxl3 : xs.length = 9 := hxl
  have k1 : Tryz.prog.cellsOf 3 = 1 := by kernel_rfl
  have k4 : Tryz.prog.cellsOf 33 = 4 := by kernel_rfl
  have h0 : DataW.trod enc Tryz.prog w 0 (fun _ => true) held n 3 (([a0, a1, a2, a3, a4, a5, a6, a7, a8, a9, a10, a11].drop 0).take (Tryz.prog.cellsOf 3)) = xs[0]? := hf 0 _ rfl
  have h1 : DataW.trod enc Tryz.prog w 0 (fun _ => true) held n 3 (([a0, a1, a2, a3, a4, a5, a6, a7, a8, a9, a10, a11].drop 1).take (Tryz.prog.cellsOf 3)) = xs[1]? := hf 1 _ rfl
  have h2 : DataW.trod enc Tryz.prog w 0 (fun _ => true) held n 3 (([a0, a1, a2, a3, a4, a5, a6, a7, a8, a9, a10, a11].drop 2).take (Tryz.prog.cellsOf 3)) = xs[2]? := hf 2 _ rfl
  have h3 : DataW.trod enc Tryz.prog w 0 (fun _ => true) held n 3 (([a0, a1, a2, a3, a4, a5, a6, a7, a8, a9, a10, a11].drop 3).take (Tryz.prog.cellsOf 3)) = xs[3]? := hf 3 _ rfl
  have h4 : DataW.trod enc Tryz.prog w 0 (fun _ => true) held n 3 (([a0, a1, a2, a3, a4, a5, a6, a7, a8, a9, a10, a11].drop 4).take (Tryz.prog.cellsOf 3)) = xs[4]? := hf 4 _ rfl
  have h9 : DataW.trod enc Tryz.prog w 0 (fun _ => true) held n 3 (([a0, a1, a2, a3, a4, a5, a6, a7, a8, a9, a10, a11].drop 9).take (Tryz.prog.cellsOf 3)) = xs[6]? := hf 6 _ rfl
  have h10 : DataW.trod enc Tryz.prog w 0 (fun _ => true) held n 3 (([a0, a1, a2, a3, a4, a5, a6, a7, a8, a9, a10, a11].drop 10).take (Tryz.prog.cellsOf 3)) = xs[7]? := hf 7 _ rfl
  have h11 : DataW.trod enc Tryz.prog w 0 (fun _ => true) held n 3 (([a0, a1, a2, a3, a4, a5, a6, a7, a8, a9, a10, a11].drop 11).take (Tryz.prog.cellsOf 3)) = xs[8]? := hf 8 _ rfl
  have hA : DataW.trod enc Tryz.prog w 0 (fun _ => true) held n 33 (([a0, a1, a2, a3, a4, a5, a6, a7, a8, a9, a10, a11].drop 5).take (Tryz.prog.cellsOf 33)) = xs[5]? := hf 5 _ rfl
  rw [k1] at h0 h1 h2 h3 h4 h9 h10 h11
  rw [k4] at hA
  rw [List.getElem?_eq_getElem (by omega)] at h0 h1 h2 h3 h4 h9 h10 h11 hA
  obtain ⟨ys, m, _, _, hl4, hyl, hi⟩ := DataW.trod_array (cs := [a5, a6, a7, a8]) Tryz.underlying33 hA
  have h5 : DataW.trod enc Tryz.prog w 0 (fun _ => true) held m 3 (([a5, a6, a7, a8].drop (0 * Tryz.prog.cellsOf 3)).take (Tryz.prog.cellsOf 3)) = ys[0]? := hi 0 (by omega)
  have h6 : DataW.trod enc Tryz.prog w 0 (fun _ => true) held m 3 (([a5, a6, a7, a8].drop (1 * Tryz.prog.cellsOf 3)).take (Tryz.prog.cellsOf 3)) = ys[1]? := hi 1 (by omega)
  have h7 : DataW.trod enc Tryz.prog w 0 (fun _ => true) held m 3 (([a5, a6, a7, a8].drop (2 * Tryz.prog.cellsOf 3)).take (Tryz.prog.cellsOf 3)) = ys[2]? := hi 2 (by omega)
  have h8 : DataW.trod enc Tryz.prog w 0 (fun _ => true) held m 3 (([a5, a6, a7, a8].drop (3 * Tryz.prog.cellsOf 3)).take (Tryz.prog.cellsOf 3)) = ys[3]? := hi 3 (by omega)
  rw [k1] at h5 h6 h7 h8
  rw [List.getElem?_eq_getElem (by omega)] at h5 h6 h7 h8
  obtain ⟨x0, e0, _, w0⟩ := DataW.trod_int (cs := [a0]) Tryz.underlying3 h0
  obtain ⟨x1, e1, _, w1⟩ := DataW.trod_int (cs := [a1]) Tryz.underlying3 h1
  obtain ⟨x2, e2, _, w2⟩ := DataW.trod_int (cs := [a2]) Tryz.underlying3 h2
  obtain ⟨x3, e3, _, w3⟩ := DataW.trod_int (cs := [a3]) Tryz.underlying3 h3
  obtain ⟨x4, e4, _, w4⟩ := DataW.trod_int (cs := [a4]) Tryz.underlying3 h4
  obtain ⟨x5, e5, _, w5⟩ := DataW.trod_int (cs := [a5]) Tryz.underlying3 h5
  obtain ⟨x6, e6, _, w6⟩ := DataW.trod_int (cs := [a6]) Tryz.underlying3 h6
  obtain ⟨x7, e7, _, w7⟩ := DataW.trod_int (cs := [a7]) Tryz.underlying3 h7
  obtain ⟨x8, e8, _, w8⟩ := DataW.trod_int (cs := [a8]) Tryz.underlying3 h8
  obtain ⟨x9, e9, _, w9⟩ := DataW.trod_int (cs := [a9]) Tryz.underlying3 h9
  obtain ⟨x10, e10, _, w10⟩ := DataW.trod_int (cs := [a10]) Tryz.underlying3 h10
  obtain ⟨x11, e11, _, w11⟩ := DataW.trod_int (cs := [a11]) Tryz.underlying3 h11
  simp at e0 e1 e2 e3 e4 e5 e6 e7 e8 e9 e10 e11
  subst e0 e1 e2 e3 e4 e5 e6 e7 e8 e9 e10 e11
  exact ⟨⟨x0, x1, x2, x3, x4, x5, x6, x7, x8, x9, x10, x11⟩, rfl, by
   intro n hn
   simp only [Spc.flds, List.mem_cons, List.not_mem_nil, or_false] at hn
   have v0 := jby w0
   have v1 := jby w1
   have v2 := jby w2
   have v3 := jby w3
   have v4 := jby w4
   have v5 := jby w5
   have v6 := jby w6
   have v7 := jby w7
   have v8 := jby w8
   have v9 := jby w9
   have v10 := jby w10
   have v11 := jby w11
   rcases hn with rfl | rfl | rfl | rfl | rfl | rfl | rfl | rfl | rfl | rfl | rfl | rfl <;> assumption⟩
theorem job {H : Type} {enc : TypeId × Value → H} {w : World} {held : Bool} (f : Nat) (cs : List Value) (y : DataW H × List MemPlace) (h : DataW.trod enc Tryz.prog w 0 (fun _ => true) held f 53 cs = some y) (hl : cs.length = 18) : ∃ r, ERc w cs r := by
 obtain ⟨xs, n, _, _, _, hxl, hf⟩ := DataW.trod_struct Tryz.underlying53 h
 match cs, hl with
 | [a0, a1, a2, a3, a4, a5, a6, a7, a8, a9, a10, a11, a12, a13, a14, a15, a16, a17], _ =>
  have hxl3 : xs.length = 7 := hxl
  have k1 : Tryz.prog.cellsOf 3 = 1 := by kernel_rfl
  have k2 : Tryz.prog.cellsOf 9 = 1 := by kernel_rfl
  have k3 : Tryz.prog.cellsOf 35 = 12 := by kernel_rfl
  have h0 : DataW.trod enc Tryz.prog w 0 (fun _ => true) held n 3 (([a0, a1, a2, a3, a4, a5, a6, a7, a8, a9, a10, a11, a12, a13, a14, a15, a16, a17].drop 0).take (Tryz.prog.cellsOf 3)) = xs[0]? := hf 0 _ rfl
  have h1 : DataW.trod enc Tryz.prog w 0 (fun _ => true) held n 3 (([a0, a1, a2, a3, a4, a5, a6, a7, a8, a9, a10, a11, a12, a13, a14, a15, a16, a17].drop 1).take (Tryz.prog.cellsOf 3)) = xs[1]? := hf 1 _ rfl
  have h2 : DataW.trod enc Tryz.prog w 0 (fun _ => true) held n 3 (([a0, a1, a2, a3, a4, a5, a6, a7, a8, a9, a10, a11, a12, a13, a14, a15, a16, a17].drop 2).take (Tryz.prog.cellsOf 3)) = xs[2]? := hf 2 _ rfl
  have h3 : DataW.trod enc Tryz.prog w 0 (fun _ => true) held n 3 (([a0, a1, a2, a3, a4, a5, a6, a7, a8, a9, a10, a11, a12, a13, a14, a15, a16, a17].drop 3).take (Tryz.prog.cellsOf 3)) = xs[3]? := hf 3 _ rfl
  have h4 : DataW.trod enc Tryz.prog w 0 (fun _ => true) held n 3 (([a0, a1, a2, a3, a4, a5, a6, a7, a8, a9, a10, a11, a12, a13, a14, a15, a16, a17].drop 4).take (Tryz.prog.cellsOf 3)) = xs[4]? := hf 4 _ rfl
  have h5 : DataW.trod enc Tryz.prog w 0 (fun _ => true) held n 9 (([a0, a1, a2, a3, a4, a5, a6, a7, a8, a9, a10, a11, a12, a13, a14, a15, a16, a17].drop 5).take (Tryz.prog.cellsOf 9)) = xs[5]? := hf 5 _ rfl
  have h6 : DataW.trod enc Tryz.prog w 0 (fun _ => true) held n 35 (([a0, a1, a2, a3, a4, a5, a6, a7, a8, a9, a10, a11, a12, a13, a14, a15, a16, a17].drop 6).take (Tryz.prog.cellsOf 35)) = xs[6]? := hf 6 _ rfl
  rw [k1] at h0 h1 h2 h3 h4
  rw [k2] at h5
  rw [k3] at h6
  rw [List.getElem?_eq_getElem (by omega)] at h0 h1 h2 h3 h4 h5 h6
  obtain ⟨x0, e0, _, w0⟩ := DataW.trod_int (cs := [a0]) Tryz.underlying3 h0
  obtain ⟨x1, e1, _, w1⟩ := DataW.trod_int (cs := [a1]) Tryz.underlying3 h1
  obtain ⟨x2, e2, _, w2⟩ := DataW.trod_int (cs := [a2]) Tryz.underlying3 h2
  obtain ⟨x3, e3, _, w3⟩ := DataW.trod_int (cs := [a3]) Tryz.underlying3 h3
  obtain ⟨x4, e4, _, w4⟩ := DataW.trod_int (cs := [a4]) Tryz.underlying3 h4
  obtain ⟨x5, e5, _, w5⟩ := DataW.trod_string (cs := [a5]) Tryz.underlying9 h5
  obtain ⟨sp, e6, w6⟩ := jmr _ [a6, a7, a8, a9, a10, a11, a12, a13, a14, a15, a16, a17] _ h6 rfl
  simp at e0 e1 e2 e3 e4 e5
  subst e0 e1 e2 e3 e4 e5
  have hc : [.int .i64 x0, .int .i64 x1, .int .i64 x2, .int .i64 x3, .int .i64 x4, .string x5] ++ [a6, a7, a8, a9, a10, a11, a12, a13, a14, a15, a16, a17] = Bk.rcC ⟨x0, x1, x2, x3, x4, x5, sp⟩ := by
   rw [e6]
   rfl
  refine ⟨⟨x0, x1, x2, x3, x4, x5, sp⟩, hc, ?_, w5, w6⟩
  intro x hx
  simp only [Rc.nums, List.mem_cons, List.not_mem_nil, or_false] at hx
  have v0 := jby w0
  have v1 := jby w1
  have v2 := jby w2
  have v3 := jby w3
  have v4 := jby w4
  rcases hx with rfl | rfl | rfl | rfl | rfl <;> assumption
theorem jms : Tryz.prog.cellsOf 53 = 18 := by kernel_rfl
theorem joc {w : World} {A : Option Addr} {n c : Nat} {ts : List Rc.R} (h : SlR 18 ERc w A n c ts) : SlF Bk.rcC w A n c ts ∧ ∀ r ∈ ts, Rc.In r := by
 refine ⟨sle_of Bk.rcC_len h (fun _ _ e => e.1), fun r hr => ?_⟩
 obtain ⟨j, hj, e⟩ := List.mem_iff_getElem.1 hr
 obtain ⟨b, o, cs, h1, h2, h3, h4, h5⟩ := h.rd j r (e ▸ List.getElem?_eq_getElem hj)
 exact h5.2
theorem recs_of {H : Type} {enc : TypeId × Value → H} {w : World} {held : Bool} {A : Option Addr} {n c : Nat} {f : Nat} {y : DataW H × List MemPlace} (h : DataW.trod enc Tryz.prog w 0 (fun _ => true) held f 22 [.slice A n c] = some y) : ∃ ts, SlF Bk.rcC w A n c ts ∧ ∀ r ∈ ts, Rc.In r := by
 obtain ⟨ts, h1⟩ := slr_of Tryz.underlying22 jms (by omega) job h
 exact ⟨ts, joc h1⟩
end Go.Proofs.YtnacjhnfkkddcaaGreatDoor
namespace Go.Proofs.YtnacjhnfkkddcaaGreatDoor
open Go
variable {H : Type} {enc : TypeId × Value → H}
theorem jdc {a : Assume} {C : Checked} {os : Os} {f : FuncId} {fn : Func} {s : ChangeSpec} {conds : List PathCond} {apart fresh handsOn again : Bool} {X : World → Array Value → Prop}
  (hX : ∀ (w w' : World) (args : Array Value), w.heap = w'.heap → X w args → X w' args)
  (own : ownKnob C.prog.godebug = none) (started : os.Started) (noInit : C.prog.inits.idxOf? f = none) (hfn : C.prog.funcs[f]? = some fn)
  (witness : ∃ (w : World) (tape : Tape) (i : Input), w.os = os ∧ (w.forCall tape i).Shaped C.prog ∧ i.vars = [] ∧ Input.okWide C.prog (w.forCall tape i) .any w.heap.size f i ∧
   ((s.pre enc C.prog fn conds apart (w.forCall tape i).memory i.args ∧ X (w.forCall tape i).memory i.args) ∧ sizedMet enc C.prog fn (OpenSpec.ofChange s) apart (w.forCall tape i).memory i.args) ∧ a.holds C.prog (lone (Frame.enter C.prog f i.args .normal) [] (w.forCall tape i)))
  (contract : ∀ (W : World) (base : Nat) (args : Array Value) (ds gs : List (DataW H)) (before : List MemPlace),
   (∀ (j : Nat) t v, fn.params[j]? = some t → args[j]? = some v → Value.okWide C.prog W .any base t v) →
   DataW.Whole enc C.prog fn.params.toList s.vars apart W args.toList ds gs before →
   X W args → W.ShapedOpen C.prog →
   Calls C.prog f args W fun e W' => ∃ v, e = .returned v ∧ s.post enc C.prog fn apart fresh handsOn again W args v W') :
  ReturnsInHanded a C os f .any (fun w args => (s.pre enc C.prog fn conds apart w args ∧ X w args) ∧ sizedMet enc C.prog fn (OpenSpec.ofChange s) apart w args) (s.post enc C.prog fn apart fresh handsOn again) := by
 refine returnsInHanded_of_calls own started noInit witness ?_
 intro w tape i _ hsh _ hok hpre _
 obtain ⟨_, _, _, fn', hfn', _, _, _, _, hval⟩ := hok
 have e : fn' = fn := Option.some.inj (hfn'.symm.trans hfn)
 subst e
 obtain ⟨⟨⟨ds, gs, before, hw, _⟩, hx⟩, _⟩ := hpre
 have hw' := DataW.Whole.of_heap (w' := w.forCall tape i) (by rfl) hw
 refine (contract (w.forCall tape i) w.heap.size i.args ds gs before hval hw' (hX _ _ _ (by rfl) hx) hsh).mono fun e W' ⟨v, he, hp⟩ => ?_
 subst he
 exact ChangeSpec.post_blind hp
end Go.Proofs.YtnacjhnfkkddcaaGreatDoor
namespace Go.Proofs.YtnacjhnfkkddcaaGreatDoor
open Go.RowKit
theorem jmt (m : Int) (A : Option Addr) (k c : Nat) (l : List Rc.R) (hin : ∀ r ∈ l, Rc.In r) (w : World) (hs : SlF Bk.rcC w A k c l) (hk : k ≤ 100000) : Calls Tryz.prog 15 #[.int .i64 m, .slice A k c] w (jke w (Bk.all m l) (.int .i64 (Bk.allN m l : Nat))) := by
 have hz := ja9
 have CN := zh (fun W => jgh m W)
 have CA : Hid (∀ s, Bk.Ok s → ∀ r, Rc.In r → ∀ L V H W, BkRd W s L V H → Calls Tryz.prog 33 #[.agg (Bk.cells s L V H), .agg (Rc.cells r)] W (jke W (Bk.app s r) (.int .i64 (Bk.chk s r)))) := fun s ok r hr L V H W h => (jgg s ok r hr L V H W h).mono fun _ _ ⟨L2, V2, H2, h1, h2, h3, _⟩ => ⟨L2, V2, H2, h1, h2, h3⟩
 have X0 := zh (BkAt.zero w)
 have B0 := zh ((Below.refl w.heap.size w).alloc (Nat.le_refl _) (.cells Bk.zeros 40))
 have S0 := zh hs
 have HI := zh hin
 have HK := zh hs.len
 have hcap := hs.cap
 clear hs hin
 go_enter Tryz.func15, Tryz.ntmps15
 go_upto_region 1 with fail
 obtain ⟨n, hn⟩ : ∃ n, n = w.heap.size := ⟨_, rfl⟩
 rw [← hn] at X0 ⊢
 have NB := zh (Nat.le_of_eq hn.symm)
 clear hn
 generalize w.alloc (.cells Bk.zeros 40) = w1 at *
 go_upto_region 2 with (first
  | (go_at_call 31; (with_reducible refine (CN.out _).mono ?_); rintro e w2 ⟨L, V, H, rfl, hrd, hb⟩; have X0 := zh (X0.out.on hb); have B2 := zh (B0.out.trans (hb.mono B0.out.size)); have RD := zh hrd; have Z2 := zh (BkAt.zero w2); clear hb hrd)
  | ((with_reducible show zW); refine jab rfl (.tmp 6) (.tmp 12) rfl rfl rfl Z2.out RD.out.one ?_))
 have hA : jdt w ((w2.alloc (.cells Bk.zeros 40)).setRow w2.heap.size (Bk.cells (Bk.new m) L V H)) n w2.heap.size (Bk.new m) L V H := by
  have hb : Below w2.heap.size w2 (w2.alloc (.cells Bk.zeros 40)) := (Below.refl _ _).alloc (Nat.le_refl _) _
  have h0 : jdt w (w2.alloc (.cells Bk.zeros 40)) n w2.heap.size Bk.none_ (.slice none 0 0) (.slice none 0 0) (.slice none 0 0) := ⟨X0.out.on hb, Z2.out, jih _ rfl rfl rfl, B2.out.trans (hb.mono B2.out.size), NB.out, X0.out.lt⟩
  exact h0.row (RD.out.on hb)
 generalize (w2.alloc (.cells Bk.zeros 40)).setRow w2.heap.size (Bk.cells (Bk.new m) L V H) = w3 at *
 generalize w2.heap.size = g at *
 have A3 := zh hA
 clear hA X0 B2 RD Z2 B0 CN
 go_wp2_with fail
 go_loopw [7, 8] (fun q i wr => ∃ (j : Nat) (L V H : Value), j ≤ k ∧ i = .int .i64 j ∧ q = .int .i64 (Bk.cnt (Bk.new m) (l.take j) : Nat) ∧ jdt w wr n g (Bk.run (Bk.new m) (l.take j)) L V H) (fun _ i _ => k - (intOf i).toNat)
 case atStart => exact ⟨0, L, V, H, by omega, rfl, rfl, A3.out⟩
 case round =>
  clear A3
  obtain ⟨j, L, V, H, hj, rfl, rfl, ha⟩ := hrel
  have AA := zh ha
  clear ha
  by_cases hlt : j < k
  ·have hx : l[j]? = some (l[j]'(by have := HK.out; omega)) := List.getElem?_eq_getElem _
   have HT := zh (Bk.take_run (Bk.new m) l (k := j) (by have := HK.out; omega))
   generalize l[j]'(by have := HK.out; omega) = r at hx HT
   have HR : Hid (Rc.In r) := HI.out r (List.mem_of_getElem? hx)
   have OK : Hid (Bk.Ok (Bk.run (Bk.new m) (l.take j))) := Bk.run_ok _ (Bk.new_ok m)
   have CL : Hid (Bk.cnt (Bk.new m) (l.take j) ≤ 100000) := by
    have := Bk.cnt_le (Bk.new m) (l.take j)
    rw [List.length_take] at this
    show _ ≤ _
    omega
   obtain ⟨b, o, rfl, hbl, hrg⟩ := jbl S0.out hx
   have RG := zh hrg
   have HB := zh hbl
   have i1 : (0 : Int) ≤ (j : Int) := by omega
   have i2 : (j : Int) < (k : Int) := by omega
   have hzz : ∀ w : World, (zeroValue 40).run Tryz.prog w = .ok (.agg Bk.zeros) w := ja9
   clear hx hrg hbl hlt
   generalize Bk.run (Bk.new m) (l.take j) = s at *
   generalize Bk.cnt (Bk.new m) (l.take j) = cn at *
   go_upto_region 6 with fail
   refine wp_region_held_drew (S := fun W => jdt w W n g s L V H) (by kernel_rfl) (AA.out.on (Below.refl _ _).drew) (fun hS => ?_)
   refine tZ 0 (v := .agg (Bk.cells s L V H)) rfl (fun W hW => jkw (.tmp 6) rfl g s L V H rfl hW.bk) hS ?_
   refine tY 1 hS ?_
   refine tY 2 hS ?_
   refine tY 3 hS ?_
   refine tZ 4 (v := .agg (Rc.cells r)) rfl (fun W hW => jcw (.tmp 23) rfl b (o + j * 18) r (by simp [Act.eval, go_sem]) (jbg RG.out (hW.below.block b HB.out))) hS ?_
   simp only [Act.put, zT, zO, zS]
   refine jdp 5 9 rfl rfl (by kernel_rfl) rfl rfl (fun K hK => ?_) (fun K hK => ?_)
   ·go_simp
    with_reducible refine (CA.out s OK.out r HR.out L V H _ hS.rd).mono ?_
    rintro e w5 ⟨L2, V2, H2, rfl, hrd, hb⟩
    have hS2 := hS.on hb
    have RD2 := zh hrd
    clear hS hb hrd
    have hS := hS2
    clear hS2
    refine hK.out _ _ hS (fun _ => ?_)
    clear hK K
    refine tY 6 hS ?_
    refine tY 7 hS ?_
    refine tY 8 hS ?_
    simp only [Act.put, zT, zO, zS]
    refine rO 9 (fun K hK => ?_)
    go_simp
    have hb9 : Below w5.heap.size w5 (w5.alloc (.cells Bk.zeros 40)) := (Below.refl _ _).alloc (Nat.le_refl _) _
    have hS2 := hS.on hb9
    have hZ9 := BkAt.zero w5
    have hG9 : g < w5.heap.size := hS.bk.lt
    have hR9 := RD2.out.on hb9
    obtain ⟨g9, hg9⟩ : ∃ g9, g9 = w5.heap.size := ⟨_, rfl⟩
    rw [← hg9] at hZ9 hG9
    rw [← hg9]
    clear hg9 hb9
    generalize w5.alloc (.cells Bk.zeros 40) = w9 at hS2 hZ9 hR9 ⊢
    have Z9 := zh hZ9
    have G9 := zh hG9
    have RD2 := zh hR9
    clear hR9
    clear hS hZ9 hG9
    have hS := hS2
    clear hS2
    refine hK.out _ _ hS (fun _ => ?_)
    clear hK K
    try simp only [Act.put, zT, zO, zS]
    refine rO 10 (fun K hK => ?_)
    refine wp_store_row 40 (.tmp 9) (.tmp 26) rfl g9 (Bk.cells (Bk.app s r) L2 V2 H2) rfl rfl 40 _ Z9.out.row (jck _ L2 V2 H2) rfl RD2.out.one ?_
    have hS2 := hS.other Z9.out jbc G9.out (Bk.cells (Bk.app s r) L2 V2 H2)
    have hZ2 := Z9.out.setRow (Bk.app s r) L2 V2 H2
    have hR2 := RD2.out.setRow Z9.out jbc (Bk.cells (Bk.app s r) L2 V2 H2)
    generalize w9.setRow g9 (Bk.cells (Bk.app s r) L2 V2 H2) = wz at hS2 hZ2 hR2 ⊢
    have ZZ := zh hZ2
    have RZ := zh hR2
    clear hS hZ2 hR2
    have hS := hS2
    clear hS2
    refine hK.out _ _ hS (fun _ => ?_)
    clear hK K
    refine tY 11 hS ?_
    simp only [Act.put, zT, zO, zS]
    refine wpAnyH_done (by kernel_rfl) ?_ _
    have AZ := zh hS
    clear hS
    by_cases hc : Bk.chk s r = 0
    ·rw [hc]
     have HC := zh hc
     have hcw : wrap64 ((cn : Int) + 1) = (cn : Int) + 1 := IntWalk.wrap64_in _ ⟨by omega, by have := CL.out; omega⟩
     clear hc
     go_wp2_with (first
      | ((with_reducible show zL 28); refine jaa rfl (.tmp 9) rfl rfl ZZ.out ?_)
      | ((with_reducible show zW); refine jab rfl (.tmp 6) (.tmp 28) rfl rfl rfl AZ.out.bk RZ.out.one ?_))
     exact ⟨⟨j + 1, L2, V2, H2, by omega, by go_num, int_eq (by rw [HT.out.2, if_pos HC.out]; omega), by rw [HT.out.1]; exact AZ.out.row RZ.out⟩, by simp [intOf]; omega⟩
    ·have q1 : (Bk.chk s r == 0) = false := by rw [beq_eq_false_iff_ne]; exact hc
     have HC := zh hc
     clear hc
     generalize Bk.chk s r = cx at *
     go_wp2_with (first
      | ((with_reducible show zL 28); refine jaa rfl (.tmp 9) rfl rfl ZZ.out ?_)
      | ((with_reducible show zW); refine jab rfl (.tmp 6) (.tmp 28) rfl rfl rfl AZ.out.bk RZ.out.one ?_))
     exact ⟨⟨j + 1, L2, V2, H2, by omega, by go_num, by rw [HT.out.2, if_neg HC.out]; rfl, by rw [HT.out.1]; exact AZ.out.row RZ.out⟩, by simp [intOf]; omega⟩
   ·go_simp
    have hb9 : Below wr.drew.heap.size wr.drew (wr.alloc (.cells Bk.zeros 40)).drew := (Below.refl wr.drew.heap.size wr.drew).alloc (Nat.le_refl _) _
    have hS2 := hS.on hb9
    have hZ9 : BkAt (wr.alloc (.cells Bk.zeros 40)).drew wr.heap.size Bk.none_ (.slice none 0 0) (.slice none 0 0) (.slice none 0 0) := ⟨heap_alloc_new wr _⟩
    have hG9 : g < wr.heap.size := hS.bk.lt
    obtain ⟨g9, hg9⟩ : ∃ g9, g9 = wr.heap.size := ⟨_, rfl⟩
    rw [← hg9] at hZ9 hG9
    rw [← hg9]
    clear hg9 hb9
    generalize (wr.alloc (.cells Bk.zeros 40)).drew = w9 at hS2 hZ9 ⊢
    have Z9 := zh hZ9
    have G9 := zh hG9
    clear hS hZ9 hG9
    have hS := hS2
    clear hS2
    refine hK.out _ _ hS (fun _ => ?_)
    clear hK K
    try simp only [Act.put, zT, zO, zS]
    refine rO 5 (fun K hK => ?_)
    go_simp
    with_reducible refine (CA.out s OK.out r HR.out L V H _ hS.rd).mono ?_
    rintro e w5 ⟨L2, V2, H2, rfl, hrd, hb⟩
    have hS2 := hS.on hb
    have RD2 := zh hrd
    have Z9 := zh (Z9.out.on hb)
    clear hS hb hrd
    have hS := hS2
    clear hS2
    refine hK.out _ _ hS (fun _ => ?_)
    clear hK K
    refine tY 6 hS ?_
    refine tY 7 hS ?_
    refine tY 8 hS ?_
    simp only [Act.put, zT, zO, zS]
    refine rO 10 (fun K hK => ?_)
    refine wp_store_row 40 (.tmp 9) (.tmp 26) rfl g9 (Bk.cells (Bk.app s r) L2 V2 H2) rfl rfl 40 _ Z9.out.row (jck _ L2 V2 H2) rfl RD2.out.one ?_
    have hS2 := hS.other Z9.out jbc G9.out (Bk.cells (Bk.app s r) L2 V2 H2)
    have hZ2 := Z9.out.setRow (Bk.app s r) L2 V2 H2
    have hR2 := RD2.out.setRow Z9.out jbc (Bk.cells (Bk.app s r) L2 V2 H2)
    generalize w5.setRow g9 (Bk.cells (Bk.app s r) L2 V2 H2) = wz at hS2 hZ2 hR2 ⊢
    have ZZ := zh hZ2
    have RZ := zh hR2
    clear hS hZ2 hR2
    have hS := hS2
    clear hS2
    refine hK.out _ _ hS (fun _ => ?_)
    clear hK K
    refine tY 11 hS ?_
    simp only [Act.put, zT, zO, zS]
    refine wpAnyH_done (by kernel_rfl) ?_ _
    have AZ := zh hS
    clear hS
    by_cases hc : Bk.chk s r = 0
    ·rw [hc]
     have HC := zh hc
     have hcw : wrap64 ((cn : Int) + 1) = (cn : Int) + 1 := IntWalk.wrap64_in _ ⟨by omega, by have := CL.out; omega⟩
     clear hc
     go_wp2_with (first
      | ((with_reducible show zL 28); refine jaa rfl (.tmp 9) rfl rfl ZZ.out ?_)
      | ((with_reducible show zW); refine jab rfl (.tmp 6) (.tmp 28) rfl rfl rfl AZ.out.bk RZ.out.one ?_))
     exact ⟨⟨j + 1, L2, V2, H2, by omega, by go_num, int_eq (by rw [HT.out.2, if_pos HC.out]; omega), by rw [HT.out.1]; exact AZ.out.row RZ.out⟩, by simp [intOf]; omega⟩
    ·have q1 : (Bk.chk s r == 0) = false := by rw [beq_eq_false_iff_ne]; exact hc
     have HC := zh hc
     clear hc
     generalize Bk.chk s r = cx at *
     go_wp2_with (first
      | ((with_reducible show zL 28); refine jaa rfl (.tmp 9) rfl rfl ZZ.out ?_)
      | ((with_reducible show zW); refine jab rfl (.tmp 6) (.tmp 28) rfl rfl rfl AZ.out.bk RZ.out.one ?_))
     exact ⟨⟨j + 1, L2, V2, H2, by omega, by go_num, by rw [HT.out.2, if_neg HC.out]; rfl, by rw [HT.out.1]; exact AZ.out.row RZ.out⟩, by simp [intOf]; omega⟩
  ·obtain rfl : j = k := by omega
   have hT : l.take j = l := List.take_of_length_le (by rw [← HK.out]; exact Nat.le_refl _)
   rw [hT] at AA ⊢
   have CL : Hid (Bk.cnt (Bk.new m) l ≤ 100000) := by
    have := Bk.cnt_le (Bk.new m) l
    have := HK.out
    show _ ≤ _
    omega
   go_wp2_with (first
    | ((with_reducible show zL 33); refine jaa rfl (.tmp 6) rfl rfl AA.out.bk ?_)
    | ((with_reducible show zW); refine jab rfl (.tmp 4) (.tmp 33) rfl rfl rfl AA.out.res AA.out.rd.one ?_))
   exact bodyPost_ret (jaz Tryz.results15 _ rfl (AA.out.res.setRow _ _ _ _)) rfl ⟨L, V, H, rfl, AA.out.rd.setRow AA.out.res jbc _, below_setRow AA.out.below NB.out _⟩
end Go.Proofs.YtnacjhnfkkddcaaGreatDoor
namespace Go.Proofs.YtnacjhnfkkddcaaGreatDoor
open Go.RowKit
open Classical in
theorem jez (a b : Rc.R) (W : World) : (binOp .neq 53 (.agg (Rc.cells a)) (.agg (Rc.cells b))).run Tryz.prog W = .ok (.bool (!decide (a = b))) W := by
 have h := rec_neq a b W
 unfold Rc.val at h
 have e : Rc.same a b = decide (a = b) := by rw [Bool.eq_iff_iff, Rc.same_iff, decide_eq_true_iff]
 rw [h, e]
def jcs (p : Prop) (w : World) (e : Ending) (w' : World) : Prop := (∃ x : Bool, e = .returned (.bool x) ∧ (x = true ↔ p)) ∧ Below w.heap.size w w'
theorem jg4 {T : Type} {a b : List T} (hl : a.length = b.length) (h : ∀ k, k < a.length → a[k]? = b[k]?) : a = b := by
 refine List.ext_getElem? fun k => ?_
 rcases Nat.lt_or_ge k a.length with h1 | h1
 ·exact h k h1
 ·rw [List.getElem?_eq_none h1, List.getElem?_eq_none (by omega)]
theorem jj0 (A1 A2 : Option Addr) (n m c1 c2 : Nat) (a b : List Rc.R) (w : World) (h1 : SlF Bk.rcC w A1 n c1 a) (h2 : SlF Bk.rcC w A2 m c2 b) (hn : n ≤ 100000) : Calls Tryz.prog 17 #[.slice A1 n c1, .slice A2 m c2] w (jcs (a = b) w) := by
 have S1 := zh h1
 have S2 := zh h2
 have L1 := zh h1.len
 have L2 := zh h2.len
 have hc1 := h1.cap
 have hc2 := h2.cap
 clear h1 h2
 by_cases hnm : n = m
 case neg =>
  have q0 : ((n : Int) != (m : Int)) = true := by rw [bne_iff_ne]; omega
  go_enter Tryz.func17, Tryz.ntmps17
  go_wp2_with fail
  go_ret
  exact ⟨⟨false, rfl, by simp; rintro rfl; exact hnm (L1.out.trans L2.out.symm)⟩, Below.refl _ _⟩
 case pos =>
  subst hnm
  go_enter Tryz.func17, Tryz.ntmps17
  go_wp2_with fail
  go_loopw [5] (fun i wr => ∃ j : Nat, j ≤ n ∧ i = .int .i64 j ∧ (∀ k, k < j → a[k]? = b[k]?) ∧ Below w.heap.size w wr) (fun i _ => n - (intOf i).toNat)
  case atStart => exact ⟨0, by omega, rfl, fun k hk => by omega, Below.refl _ _⟩
  case round =>
   obtain ⟨j, hj, rfl, hk, hbr⟩ := hrel
   have HK := zh hk
   have B := zh hbr
   clear hk hbr
   by_cases hlt : j < n
   ·have hx : a[j]? = some (a[j]'(by have := L1.out; omega)) := List.getElem?_eq_getElem _
    have hy : b[j]? = some (b[j]'(by have := L2.out; omega)) := List.getElem?_eq_getElem _
    generalize a[j]'(by have := L1.out; omega) = x at hx
    generalize b[j]'(by have := L2.out; omega) = y at hy
    obtain ⟨b1, o1, rfl, hl1, hr1⟩ := jbl S1.out hx
    obtain ⟨b2, o2, rfl, hl2, hr2⟩ := jbl S2.out hy
    have EX := zh hx
    have EY := zh hy
    have R1 := zh hr1
    have R2 := zh hr2
    have H1 := zh hl1
    have H2 := zh hl2
    have i1 : (0 : Int) ≤ (j : Int) := by omega
    have i2 : (j : Int) < (n : Int) := by omega
    have hgd := jf8
    obtain ⟨q, hq⟩ : ∃ q : Bool, q = true ↔ x ≠ y := by
     classical exact ⟨decide (x ≠ y), decide_eq_true_iff⟩
    have hne : ∀ W, (binOp .neq 53 (.agg (Rc.cells x)) (.agg (Rc.cells y))).run Tryz.prog W = .ok (.bool q) W := fun W => by
     classical
     rw [jez, show (!decide (x = y)) = q from by rw [Bool.eq_iff_iff, hq]; simp]
    have HQ := zh hq
    clear hx hy hr1 hr2 hl1 hl2 hq
    go_upto_region 6 with fail
    refine wp_region_held_drew (S := fun W => Below w.heap.size w W) (by kernel_rfl) B.out.drew (fun hS => ?_)
    refine tY 0 hS ?_
    refine tY 1 hS ?_
    refine tY 2 hS ?_
    refine tZ 3 (v := .agg (Rc.cells x)) rfl (fun W hW => jcw (.tmp 19) rfl b1 (o1 + j * 18) x (by simp [Act.eval, go_sem]) (jbg R1.out (hW.block b1 H1.out))) hS ?_
    refine tY 4 hS ?_
    refine tY 5 hS ?_
    simp only [Act.put, zT, zO, zS]
    refine tY 6 hS ?_
    refine tZ 7 (v := .agg (Rc.cells y)) rfl (fun W hW => jcw (.tmp 23) rfl b2 (o2 + j * 18) y (by simp [Act.eval, go_sem]) (jbg R2.out (hW.block b2 H2.out))) hS ?_
    refine tY 8 hS ?_
    simp only [Act.put, zT, zO, zS]
    refine wpAnyH_done (by kernel_rfl) ?_ _
    cases q with
    | true =>
     have HN : Hid (x ≠ y) := HQ.out.1 rfl
     go_wp2_with fail
     go_ret
     refine ⟨⟨false, rfl, ?_⟩, hS⟩
     simp only [Bool.false_eq_true, false_iff]
     intro e
     have e2 := EX.out
     rw [e, EY.out] at e2
     exact HN.out (Option.some.inj e2).symm
    | false =>
     have HE : Hid (x = y) := by
      show x = y
      classical
      exact Decidable.byContradiction fun h => by have := HQ.out.2 h; cases this
     go_wp2_with fail
     refine ⟨⟨j + 1, by omega, by go_num, fun k hk => ?_, hS⟩, by simp [intOf]; omega⟩
     rcases Nat.lt_or_ge k j with h | h
     ·exact HK.out k h
     ·rw [show k = j by omega, EX.out, EY.out, HE.out]
   ·obtain rfl : j = n := by omega
    go_wp2_with fail
    go_ret
    exact ⟨⟨true, rfl, by simp; exact jg4 (by rw [← L1.out, ← L2.out]) fun k hk => HK.out k (by rw [L1.out]; exact hk)⟩, B.out⟩
end Go.Proofs.YtnacjhnfkkddcaaGreatDoor
namespace Go.Proofs.YtnacjhnfkkddcaaGreatDoor.Bk
open Rc (R right)
theorem Like.trans {a b c : St} (h : Like a b) (g : Like b c) : Like a c := ⟨h.ep.trans g.ep, h.who.trans g.who, h.till.trans g.till, h.stable.trans g.stable, h.from_.trans g.from_, h.ph.trans g.ph, h.step.trans g.step, h.since.trans g.since, h.begun.trans g.begun, h.seq.trans g.seq, h.sp.trans g.sp, fun i hi => (h.us i hi).trans (g.us i hi), h.vs.trans g.vs, h.h.trans g.h⟩
section
variable {a b : St} {r : R}
theorem Like.chk (h : Like a b) (hm : a.m = b.m) (r : R) : chk a r = chk b r := by
 have hl : leadE a r = leadE b r := by unfold leadE leadOk; rw [h.ep, h.who, h.till, hm]
 have h2 : chk2 a r = chk2 b r := by unfold chk2; rw [h.vs]
 have h3 : chk3 a r = chk3 b r := by unfold chk3; rw [h.vs, h.ph, h.stable]
 have h4 : chk4 a r = chk4 b r := by unfold chk4; rw [h.ph]
 have h5 : chk5 a r = chk5 b r := by unfold chk5; rw [h.ph, h.seq, h.sp, h.from_]
 have h7 : chk7 a r = chk7 b r := by unfold chk7; rw [h.ph, h.step, h.sp]
 unfold Bk.chk
 rw [hl, h2, h3, h4, h5, h7, h.ep]
 by_cases hr : right r = false
 ·rw [if_pos hr, if_pos hr]
 ·have hr : right r = true := by cases e : right r <;> simp_all
  by_cases hk : r.kind = 6
  ·have h6 : chk6 a r = chk6 b r := by
    have := Rc.right6 hk hr
    unfold chk6
    rw [h.us r.who.toNat (by omega)]
   rw [h6]
  ·simp only [if_neg hk]
theorem Like.app (h : Like a b) (hm : a.m = b.m) (r : R) : Like (app a r) (app b r) := by
 unfold Bk.app
 rw [h.chk hm r]
 by_cases hc : Bk.chk b r = 0
 case neg => rw [if_neg hc, if_neg hc]; exact h
 rw [if_pos hc, if_pos hc]
 rcases kinds hc with hk | hk | hk | hk | hk | hk | hk
 ·rw [act1 hk, act1 hk]
  have ht : leadT a r = leadT b r := by unfold leadT; rw [h.ep, h.till]
  exact { h with ep := rfl, who := rfl, till := ht }
 ·rw [act2 hk, act2 hk]
  exact { h with vs := by show pub a.vs _ = pub b.vs _; rw [h.vs] }
 ·rw [act3 hk, act3 hk]
  exact { h with sp := rfl, ph := rfl, step := rfl, since := rfl, begun := rfl, from_ := h.stable, h := by show last24 (a.h ++ [r]) = last24 (b.h ++ [r]); rw [h.h] }
 ·rw [act4 hk, act4 hk]
  exact { h with ph := rfl, stable := (by show (if r.n = 3 then a.sp.v else a.stable) = (if r.n = 3 then b.sp.v else b.stable); rw [h.sp, h.stable]), h := by show last24 (a.h ++ [r]) = last24 (b.h ++ [r]); rw [h.h] }
 ·rw [act5 hk, act5 hk]
  refine { h with us := fun i hi => ?_, seq := rfl }
  show setU a.us _ _ i = setU b.us _ _ i
  unfold setU
  rw [h.us i hi]
 ·rw [act6 hk, act6 hk]
  have := Rc.right6 hk (chk_right hc)
  refine { h with us := fun i hi => ?_ }
  show setU a.us _ _ i = setU b.us _ _ i
  unfold setU
  rw [h.us i hi, h.us r.who.toNat (by omega)]
 ·rw [act7 hk, act7 hk]
  exact { h with step := rfl, since := rfl, h := by show last24 (a.h ++ [r]) = last24 (b.h ++ [r]); rw [h.h] }
end
def refs (s : St) (l : List R) : Int := (l.length : Int) - (cnt s l : Nat)
theorem refs_nil (s : St) : refs s [] = 0 := rfl
theorem refs_cons (s : St) (r : R) (l : List R) : refs s (r :: l) = (if chk s r = 0 then 0 else 1) + refs (app s r) l := by
 unfold refs
 rw [List.length_cons, cnt]
 split <;> omega
theorem refs_append (s : St) (a b : List R) : refs s (a ++ b) = refs s a + refs (run s a) b := by
 unfold refs
 rw [List.length_append, cnt_append]
 omega
theorem refs_nonneg (s : St) (l : List R) : 0 ≤ refs s l := by have := cnt_le s l; unfold refs; omega
theorem refs_take (s : St) (l : List R) {j : Nat} (h : j < l.length) : refs s (l.take (j + 1)) = refs s (l.take j) + if chk (run s (l.take j)) l[j] = 0 then 0 else 1 := by
 rw [List.take_succ_eq_append_getElem h, refs_append, refs_cons, refs_nil]
 omega
theorem refs_split (s : St) (l : List R) (j : Nat) : refs s l = refs s (l.take j) + refs (run s (l.take j)) (l.drop j) := by
 rw [← refs_append, List.take_append_drop]
theorem run_split (s : St) (l : List R) (j : Nat) : run s l = run (run s (l.take j)) (l.drop j) := by
 rw [← run_append, List.take_append_drop]
theorem like_run (l : List R) : ∀ {a b : St}, Like a b → a.m = b.m → Like (run a l) (run b l) ∧ refs a l = refs b l := by
 induction l with
 | nil => exact fun h _ => ⟨h, rfl⟩
 | cons r l ih =>
  intro a b h hm
  obtain ⟨h1, h2⟩ := ih (h.app hm r) (by rw [app_m, app_m, hm])
  refine ⟨h1, ?_⟩
  rw [refs_cons, refs_cons, h2, h.chk hm r]
def Lack (b : St) (r : R) (l : List R) : Prop := chk b r = 0 ∧ Like (run (app b r) l) (run b l) ∧ refs b l = refs (app b r) l
theorem lack_end {b : St} {r : R} {l : List R} (hc : chk b r = 0) : Lack b r l ↔ (refs b (l.take l.length) - refs (app b r) (l.take l.length) = 0 ∧ Like (run (app b r) (l.take l.length)) (run b (l.take l.length))) := by
 rw [List.take_length]
 unfold Lack
 constructor
 ·rintro ⟨_, h1, h2⟩; exact ⟨by omega, h1⟩
 ·rintro ⟨h1, h2⟩; exact ⟨hc, h2, by omega⟩
theorem lack_more {b : St} {r : R} {l : List R} (j : Nat) (h : refs (app b r) l - refs (app b r) (l.take j) < refs b (l.take j) - refs (app b r) (l.take j)) : ¬ Lack b r l ∧ refs b (l.take j) - refs (app b r) (l.take j) ≠ 0 := by
 have h1 := refs_split b l j
 have h2 := refs_split (app b r) l j
 have h3 := refs_nonneg (run b (l.take j)) (l.drop j)
 have h4 := refs_nonneg (run (app b r) (l.take j)) (l.drop j)
 refine ⟨fun hl => ?_, by omega⟩
 have := hl.2.2
 omega
theorem lack_like {b : St} {r : R} {l : List R} (hc : chk b r = 0) (j : Nat) (h : Like (run (app b r) (l.take j)) (run b (l.take j))) : Lack b r l ↔ refs b (l.take j) - refs (app b r) (l.take j) = 0 := by
 have h1 := refs_split b l j
 have h2 := refs_split (app b r) l j
 obtain ⟨h3, h4⟩ := like_run (l.drop j) h (by rw [run_m, run_m, app_m])
 rw [← run_split, ← run_split] at h3
 unfold Lack
 constructor
 ·rintro ⟨_, _, h5⟩; omega
 ·intro h5; exact ⟨hc, h3, by omega⟩
open Classical in
noncomputable def dgo (b : St) : List R → List R
 | [] => []
 | r :: l => if r.kind = 1 ∧ Lack b r l then dgo b l else r :: dgo (app b r) l
theorem cgo_dgo {m : Int} {want : St} {odd : Int} : ∀ (rest kept : List R), Like (all m (kept ++ rest)) want → refs (new m) (kept ++ rest) = odd → cgo m want odd rest.length kept.length (kept ++ rest) = kept ++ dgo (run (new m) kept) rest := by
 intro rest
 induction rest with
 | nil => intro kept _ _; rfl
 | cons r rest ih =>
  intro kept h1 h2
  have hb : but (kept ++ r :: rest) kept.length = kept ++ rest := by
   unfold but
   rw [List.take_left, List.drop_append, List.drop_of_length_le (by omega), show kept.length + 1 - kept.length = 1 by omega]
   rfl
  have hg : (kept ++ r :: rest)[kept.length]? = some r := by rw [List.getElem?_append_right (Nat.le_refl _), Nat.sub_self]; rfl
  have e1 : all m (kept ++ r :: rest) = run (app (run (new m) kept) r) rest := by unfold all; rw [run_append]; rfl
  have e2 : all m (kept ++ rest) = run (run (new m) kept) rest := by unfold all; rw [run_append]
  have e3 : ((kept ++ rest).length : Int) - (allN m (kept ++ rest) : Nat) = refs (new m) kept + refs (run (new m) kept) rest := by rw [← refs_append]; rfl
  have e4 := h2
  rw [refs_append, refs_cons] at e4
  have hi : Idle m want odd (kept ++ r :: rest) kept.length ↔ r.kind = 1 ∧ Lack (run (new m) kept) r rest := by
   unfold Idle Lack
   rw [hb, hg, e2, e3]
   rw [e1] at h1
   generalize run (new m) kept = b at *
   constructor
   ·rintro ⟨⟨r', hr', hk⟩, h3, h4⟩
    obtain rfl := Option.some.inj hr'
    by_cases hc : chk b r = 0
    ·rw [if_pos hc] at e4
     exact ⟨hk, hc, h1.trans h3.symm, by omega⟩
    ·rw [if_neg hc, app_no hc] at e4
     omega
   ·rintro ⟨hk, hc, h3, h4⟩
    rw [if_pos hc] at e4
    exact ⟨⟨r, rfl, hk⟩, h3.symm.trans h1, by omega⟩
  rw [List.length_cons, cgo, dgo]
  by_cases hd : r.kind = 1 ∧ Lack (run (new m) kept) r rest
  ·rw [if_pos (hi.2 hd), if_pos hd, hb]
   have h3 := hi.2 hd
   refine ih kept ?_ ?_
   ·rw [← hb]; exact h3.2.1
   ·have := h3.2.2
    rw [hb] at this
    exact this
  ·rw [if_neg (fun h => hd (hi.1 h)), if_neg hd]
   have := ih (kept ++ [r]) (by rw [List.append_assoc]; exact h1) (by rw [List.append_assoc]; exact h2)
   rw [List.append_assoc, List.length_append, List.length_singleton, run_snoc] at this
   rw [show kept ++ r :: rest = kept ++ ([r] ++ rest) from rfl, this, List.append_assoc]
   rfl
theorem compact_dgo (m : Int) (l : List R) : compact m l = dgo (new m) l := cgo_dgo l [] (Like.refl _) rfl
end Go.Proofs.YtnacjhnfkkddcaaGreatDoor.Bk
namespace Go.Proofs.YtnacjhnfkkddcaaGreatDoor
open Go.RowKit Go.Deep Go.Maps
def lvr1 : Rc.R := ⟨1, 1, 0, 0, 9, ⟨#[]⟩, ⟨0, 0, 0, 0, 0, 0, 0, 0, 0, 0, 0, 0⟩⟩
def lvr2 : Rc.R := ⟨2, 1, 0, 1, 0, ⟨#[120]⟩, ⟨0, 0, 0, 0, 0, 0, 0, 0, 0, 0, 0, 0⟩⟩
def lvsp : Spc.Sp := ⟨1, 1, 1, 0, 1, 0, 0, 0, 0, 1, 0, 9⟩
def lvr3 : Rc.R := ⟨3, 1, 0, 0, 0, ⟨#[]⟩, lvsp⟩
def lvr4 : Rc.R := ⟨4, 1, 0, 3, 0, ⟨#[100, 111, 110, 101]⟩, ⟨0, 0, 0, 0, 0, 0, 0, 0, 0, 0, 0, 0⟩⟩
def lvrs : List Rc.R := [lvr1, lvr2, lvr3, lvr4]
theorem lvrs_n : Bk.allN 2 lvrs = 4 := by kernel_rfl
theorem jh9 : (Bk.all 2 lvrs).stable = 1 := by kernel_rfl
theorem lvrs_ph : (Bk.all 2 lvrs).ph = 3 := by kernel_rfl
theorem lvrs_h : (Bk.all 2 lvrs).h.length = 2 := by kernel_rfl
theorem lvrs_in : ∀ r ∈ lvrs, Rc.In r := by
 intro r hr
 simp only [lvrs, List.mem_cons, List.not_mem_nil, or_false] at hr
 rcases hr with rfl | rfl | rfl | rfl
 all_goals refine ⟨by intro x hx; simp [Rc.nums, lvr1, lvr2, lvr3, lvr4] at hx; unfold Spc.i64; omega, by decide, by intro x hx; simp [Spc.flds, lvr1, lvr2, lvr3, lvr4, lvsp] at hx; unfold Spc.i64; omega⟩
theorem jod (w : World) : SlF Bk.rcC (w.alloc (.cells (lvrs.flatMap Bk.rcC).toArray 53)) (some ⟨w.heap.size, 0, none⟩) 4 4 lvrs := by
 refine ⟨fun _ => ⟨w.heap.size, 0, rfl, by simp, fun j u hj => ?_⟩, rfl, Nat.le_refl _, by unfold maxLen; omega, fun e => by cases e⟩
 rw [cell_of_row _ w.heap.size _ _ _ _ (heap_alloc_new w _), Nat.zero_add, List.getElem?_toArray]
 exact hj
theorem jg5 (s : Bk.St) : (Bk.units s).length = 16 := rfl
def je0 (n : Int) : Array Value := #[.int .i64 n, .int .i64 1, .int .i64 1, .int .i64 0, .int .i64 1, .int .i64 0, .int .i64 0, .int .i64 0, .int .i64 0, .int .i64 1, .int .i64 0, .int .i64 9]
theorem jfh (n : Int) : (Tryz.prog.info? 35).map (·.size) = some (je0 n).size := by kernel_rfl
theorem jmu (n : Int) : (je0 n).all (·.oneCell') = true := by
 simp [je0]
 simp [Value.oneCell']
theorem jdw {w : World} {ops : Array Oper} {rest : List Oper} {op : Oper} {a : Act} {Q : Exit → Act → World → Prop} {g : Nat} {n : Int} {cs : Array Value} (hgd : op.guard = none) (x y : Operand) (ho : op.op = .store 35 x y) (hx : a.eval x = .pointer (some ⟨g, 0, none⟩)) (hy : a.eval y = .agg (je0 n)) (hg : w.heap[g]? = some (.cells cs 35 (0, 0))) (hc : cs.size = (je0 n).size)
  (h : wpList Tryz.prog ops Q rest (a.put op.dst undef) (w.setRow g (je0 n))) : wpList Tryz.prog ops Q (op :: rest) a w :=
 wpList_store_row hgd 35 x y ho g (je0 n) hx hy 35 _ hg (jfh n) hc (jmu n) h
theorem joe (n : Int) (w : World) : Calls Tryz.prog 30 #[.int .i64 n] w (BRet (.agg (je0 n)) w) := by
 have hzs : ∀ W : World, (zeroValue 35).run Tryz.prog W = .ok (.agg #[.int .i64 0, .int .i64 0, .int .i64 0, .int .i64 0, .int .i64 0, .int .i64 0, .int .i64 0, .int .i64 0, .int .i64 0, .int .i64 0, .int .i64 0, .int .i64 0]) W := (zero_of_info (n := 12) (by kernel_rfl)).1
 have R0 := heap_alloc_new w (.cells #[.int .i64 0, .int .i64 0, .int .i64 0, .int .i64 0, .int .i64 0, .int .i64 0, .int .i64 0, .int .i64 0, .int .i64 0, .int .i64 0, .int .i64 0, .int .i64 0] 35)
 have B0 := zh ((Below.refl w.heap.size w).alloc (Nat.le_refl _) (.cells #[.int .i64 0, .int .i64 0, .int .i64 0, .int .i64 0, .int .i64 0, .int .i64 0, .int .i64 0, .int .i64 0, .int .i64 0, .int .i64 0, .int .i64 0, .int .i64 0] 35))
 go_enter Tryz.func30, Tryz.ntmps30
 go_upto_region 1 with fail
 obtain ⟨g, hg⟩ : ∃ g, g = w.heap.size := ⟨_, rfl⟩
 rw [← hg] at R0 ⊢
 have GE : Hid (w.heap.size ≤ g) := Nat.le_of_eq hg.symm
 clear hg
 generalize w.alloc (.cells #[.int .i64 0, .int .i64 0, .int .i64 0, .int .i64 0, .int .i64 0, .int .i64 0, .int .i64 0, .int .i64 0, .int .i64 0, .int .i64 0, .int .i64 0, .int .i64 0] 35) = W1 at *
 go_wp2_with (first
  | ((with_reducible show wpList _ _ _ ({ dst := some 4, op := .build _ _, type := _, pos := _, after := _, guard := _ } :: _) _ _); refine jbi rfl 35 _ rfl (je0 n) (by kernel_rfl) ?_)
  | ((with_reducible show zW); refine jdw (n := n) rfl (.tmp 2) (.tmp 4) rfl rfl rfl R0 rfl ?_))
 try simp only [Exit.inBlock, Exit.then]
 exact bodyPost_ret (v := .agg (je0 n)) (results_cell_row (P := Tryz.prog) Tryz.results30 _ _ g 35 (je0 n) (0, 0) _ rfl (setRow_heap W1 g _ _ _ _ R0) jec rfl (jfh n)) rfl ⟨rfl, below_setRow B0.out GE.out _⟩
theorem jmv (W : World) (ht : BT W) : Calls Tryz.prog 11 #[] W (BRet (.bool true) W) := by
 have CSM := zh (fun w => joe 1 w)
 have CA := zh (fun (w : World) (h2 : BT w) => jf0 2 _ 4 4 lvrs lvrs_in (w.alloc (.cells (lvrs.flatMap Bk.rcC).toArray 53)) (jod w) (by omega) (h2.on ((Below.refl _ _).alloc (Nat.le_refl _) _)))
 have T0 := zh ht
 have E1 := zh lvrs_n
 have E2 := zh jh9
 have E3 := zh lvrs_ph
 have E4 := zh lvrs_h
 have AB : Hid (∀ (w w' : World) e, jnp BdP (Bk.all 2 lvrs) (fun p => .tuple #[p, .int .i64 (Bk.allN 2 lvrs : Nat)]) w e w' → ∃ q, e = .returned (.tuple #[.pointer (some ⟨q, 0, none⟩), .int .i64 4]) ∧ BP w (fun _ => False) q (Bk.all 2 lvrs) w') := fun w w' e h => by
  obtain ⟨q, rfl, h2⟩ := jmq h
  exact ⟨q, by show _ = _; rw [E1.out]; rfl, h2⟩
 clear E1 ht
 have hv3 : ∀ w, (Instr.field 48 (.agg (Bk.viewC (Bk.all 2 lvrs))) 3).run Tryz.prog w = .ok (.int .i64 1) w := fun w => by rw [vf3, E2.out]
 have hv5 : ∀ w, (Instr.field 48 (.agg (Bk.viewC (Bk.all 2 lvrs))) 5).run Tryz.prog w = .ok (.int .i64 3) w := fun w => by rw [vf5, E3.out]
 clear E2 E3
 generalize Bk.all 2 lvrs = s at *
 go_enter Tryz.func11, Tryz.ntmps11
 go_upto_region 2 with (first
  | ((with_reducible show wpList _ _ _ ({ dst := some 4, op := .build _ _, type := _, pos := _, after := _, guard := _ } :: _) _ _); refine jbi rfl 53 _ rfl (Rc.cells lvr1) (by kernel_rfl) ?_)
  | ((with_reducible show wpList _ _ _ ({ dst := some 5, op := .build _ _, type := _, pos := _, after := _, guard := _ } :: _) _ _); refine jbi rfl 53 _ rfl (Rc.cells lvr2) (by kernel_rfl) ?_)
  | ((with_reducible show wpList _ _ _ ({ dst := some 7, op := .build _ _, type := _, pos := _, after := _, guard := _ } :: _) _ _); refine jbi rfl 53 _ rfl (Rc.cells lvr3) (by kernel_rfl) ?_)
  | ((with_reducible show wpList _ _ _ ({ dst := some 8, op := .build _ _, type := _, pos := _, after := _, guard := _ } :: _) _ _); refine jbi rfl 53 _ rfl (Rc.cells lvr4) (by kernel_rfl) ?_)
  | ((with_reducible show zB 9); obtain ⟨i0, hi, hz0, hz1, hz2⟩ := info_parts jak; refine wpList_buildSlice rfl 22 53 4 _ rfl (lvrs.flatMap Bk.rcC).toArray i0 _ Tryz.underlying22 hi hz0 (by rw [hz1]; omega) (by rw [hz1]; omega) (by rw [hz1]; kernel_rfl) ?_; clear hi hz0 hz1 hz2 i0)
  | (go_at_call 30; (with_reducible refine (CSM.out _).mono ?_); rintro e w1 ⟨rfl, hb⟩; have B1 := zh hb; clear hb)
  | (go_at_call 14; (with_reducible refine (CA.out _ (T0.out.on B1.out)).mono ?_); rintro e w2 hp; have B2 := zh (B1.out.trans (((Below.refl w1.heap.size w1).alloc (Nat.le_refl _) (.cells (lvrs.flatMap Bk.rcC).toArray 53)).mono B1.out.size)); obtain ⟨q, rfl, hbp⟩ := AB.out _ _ _ hp; have D := zh hbp; clear hp hbp))
 have B3 := zh (B2.out.trans ((jat D.out).mono B2.out.size))
 clear B2 B1 CA CSM AB
 have hl2 : s.h.length = 2 := E4.out
 go_wp2_with (first
  | (go_at_call 21; (with_reducible refine (jmo D.out).mono ?_); rintro e w4 ⟨rfl, hb⟩; have D := zh (jbj D.out hb); have B3 := zh (B3.out.trans (hb.mono B3.out.size)); clear hb)
  | (go_at_call 26; (with_reducible refine (jmp D.out).mono ?_); rintro e w4 hp; obtain ⟨A8, c8, rfl, p1, hb, p3⟩ := hp; have D := zh (jbj D.out hb); have B3 := zh (B3.out.trans (hb.mono B3.out.size)); clear hb p1 p3)
  | (go_at_call 28; (with_reducible refine (jiq D.out).mono ?_); rintro e w4 hp; obtain ⟨A7, c7, rfl, p1, hb, p3⟩ := hp; have B9 := zh (B3.out.trans (hb.mono B3.out.size)); clear hb p1 p3))
 go_ret
 exact ⟨rfl, B9.out⟩
end Go.Proofs.YtnacjhnfkkddcaaGreatDoor
namespace Go.Proofs.YtnacjhnfkkddcaaGreatDoor
open Go.RowKit
theorem jof (n c1 c2 : Nat) (A1 A2 : Option Addr) (l : List Int) (w : World) (h1 : SlI w A1 n c1 l) (h2 : SlI w A2 n c2 l) (hn : n ≤ 1000000) :
  Calls Tryz.prog 34 #[.slice A1 n c1, .slice A2 n c2] w fun e w' => e = .returned (.bool true) ∧ ∃ d, w' = w.drewN d := by
 have H1 := zh h1; clear h1
 have H2 := zh h2; clear h2
 go_enter Tryz.func34, Tryz.ntmps34
 go_wp2_with fail
 go_loopw [5] (fun i wr => ∃ m : Nat, m ≤ n ∧ i = .int .i64 m ∧ ∃ d, wr = w.drewN d) (fun i _ => n - (intOf i).toNat)
 case atStart => exact ⟨0, by omega, rfl, 0, rfl⟩
 case round =>
  obtain ⟨m, hm, rfl, d, rfl⟩ := hrel
  by_cases hlt : m < n
  ·have hml : m < l.length := by rw [← H1.out.len]; exact hlt
   obtain ⟨b1, o1, rfl, _, e1⟩ := H1.out.rd (by omega)
   obtain ⟨b2, o2, rfl, _, e2⟩ := H2.out.rd (by omega)
   have f1 := e1 m hml
   have f2 := e2 m hml
   clear e1 e2
   generalize l.getD m 0 = x at *
   have i1 : (0 : Int) ≤ (m : Int) := by omega
   have i2 : (m : Int) < (n : Int) := by omega
   go_wp2_with fail
   go_quiet (fail)
   go_wp2_with fail
   refine ⟨⟨m + 1, by omega, by go_num, _, rfl⟩, by simp [intOf]; omega⟩
  ·obtain rfl : m = n := by omega
   go_wp2_with fail
   go_ret
   exact ⟨rfl, d, rfl⟩
namespace Bk
def vwSame (a b : St) : Bool := (a.ep == b.ep) && ((a.who == b.who) && ((a.till == b.till) && ((a.stable == b.stable) && ((a.from_ == b.from_) && ((a.ph == b.ph) && ((a.step == b.step) && ((a.since == b.since) && ((a.begun == b.begun) && ((a.seq == b.seq) && (Spc.same a.sp b.sp && true))))))))))
theorem vwSame_iff {a b : St} : vwSame a b = true ↔ (a.ep = b.ep ∧ a.who = b.who ∧ a.till = b.till ∧ a.stable = b.stable ∧ a.from_ = b.from_ ∧ a.ph = b.ph ∧ a.step = b.step ∧ a.since = b.since ∧ a.begun = b.begun ∧ a.seq = b.seq ∧ a.sp = b.sp) := by
 unfold vwSame
 simp only [Bool.and_eq_true, beq_iff_eq, and_true, Spc.same_iff]
end Bk
theorem jg6 : Tryz.prog.underlying 48 = some (.struct (Tryz.prog.fieldsOf 48)) := by kernel_rfl
theorem jog : Tryz.prog.stoodInHeld 48 = false := by kernel_rfl
theorem jmw (r s : Bk.St) (W : World) : (Op.equalIn 10000 48 (.agg (Bk.viewC r)) (.agg (Bk.viewC s))).run Tryz.prog W = .ok (Bk.vwSame r s) W := by
 rw [run_equalIn_agg W 9999 48 _ _ jg6 jog]
 have hi : ∀ x y, (Op.equalIn 9999 3 (.int .i64 x) (.int .i64 y)).run Tryz.prog W = .ok (x == y) W := fun x y => run_equalIn_int W 9998 3 .i64 .i64 x y Tryz.underlying3
 have hs := jde r.sp s.sp 9996 W
 simp only [Program.fieldsOf, Tryz.underlying48, Bk.viewC]
 unfold Bk.vwSame
 unfold Spc.val Spc.cells at hs
 refine jah (by decide) ?_ ?_ (hi _ _) (jah (by decide) ?_ ?_ (hi _ _) (jah (by decide) ?_ ?_ (hi _ _) (jah (by decide) ?_ ?_ (hi _ _) (jah (by decide) ?_ ?_ (hi _ _) (jah (by decide) ?_ ?_ (hi _ _) (jah (by decide) ?_ ?_ (hi _ _) (jah (by decide) ?_ ?_ (hi _ _) (jah (by decide) ?_ ?_ (hi _ _) (jah (by decide) ?_ ?_ (hi _ _) (jah (by decide) ?_ ?_ hs jeb))))))))))
 all_goals simp [go_sem, Sem.run_bind, Result.andThen]
theorem vw_eq (r s : Bk.St) (W : World) : (binOp .eql 48 (.agg (Bk.viewC r)) (.agg (Bk.viewC s))).run Tryz.prog W = .ok (.bool (Bk.vwSame r s)) W := by
 have h := jmw r s W
 unfold Bk.viewC at *
 rw [run_eql_struct, h]; rfl
theorem vw_neq (r s : Bk.St) (W : World) : (binOp .neq 48 (.agg (Bk.viewC r)) (.agg (Bk.viewC s))).run Tryz.prog W = .ok (.bool (!Bk.vwSame r s)) W := by
 have h := jmw r s W
 unfold Bk.viewC at *
 rw [run_neq_struct, h]; rfl
theorem un_neq (a b : Bk.Un) (W : World) : (binOp .neq 37 (.agg #[.int .i64 a.v, .int .i64 a.q, .bool a.d]) (.agg #[.int .i64 b.v, .int .i64 b.q, .bool b.d])).run Tryz.prog W = .ok (.bool (!Bk.unSame a b)) W := by
 have h := jbf a b 9998 W
 rw [run_neq_struct, h]; rfl
theorem jmx {a : Act} {oi : Oper} (x : Operand) (ho : oi.op = .load 48 x) (g : Nat) (s : Bk.St) (hx : a.eval x = .pointer (some ⟨g, 0, none⟩)) {W : World} (h : W.heap[g]? = some (.cells (Bk.viewC s) 48 (0, 0))) : (execOp a.eval oi).run Tryz.prog W = .ok (.value (.agg (Bk.viewC s))) W := by
 unfold execOp
 simp only [ho, hx, Instr.loadAt, Instr.sureAddr, Sem.run_bind, Sem.run_pure, Result.andThen_ok, run_loadVar_row (P := Tryz.prog) W g 48 48 (Bk.viewC s) (0, 0) _ h jg6 rfl (by kernel_rfl)]
theorem jmy (l : List Int) : l.flatMap (fun x : Int => [Value.int .i64 x]) = l.map (Value.int .i64) := by
 induction l with
 | nil => rfl
 | cons x l ih => rw [List.flatMap_cons, ih]; rfl
theorem jg7 {w : World} {A : Option Addr} {n c : Nat} {l : List Int} (h : SlF (fun x : Int => [Value.int .i64 x]) w A n c l) : SlI w A n c l :=
 ⟨fun hl => by
  obtain ⟨b, o, e, hb, hc⟩ := h.rd hl
  refine ⟨b, o, e, hb, fun j hj => hc j _ ?_⟩
  rw [jmy, List.getElem?_map, List.getElem?_eq_getElem hj]
  have : l.getD j 0 = l[j] := by rw [List.getD_eq_getElem?_getD, List.getElem?_eq_getElem hj]; rfl
  rw [this]
  rfl, h.len, h.cap, h.max⟩
end Go.Proofs.YtnacjhnfkkddcaaGreatDoor
