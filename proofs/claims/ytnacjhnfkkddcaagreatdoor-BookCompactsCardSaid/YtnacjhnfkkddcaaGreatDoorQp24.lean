import Derived.Test.YtnacjhnfkkddcaaGreatDoorQp23
set_option maxHeartbeats 6400000
set_option maxRecDepth 100000
set_option linter.unusedSimpArgs false
set_option linter.unusedVariables false
namespace Go.Proofs.YtnacjhnfkkddcaaGreatDoor
open Go.RowKit Go.Deep Go.Maps
theorem jn2 {s : Bk.St} {ru ru' : Nat → Bk.Un} {rv : Int} {lm km H : Value} (h : ∀ i, ru i = ru' i) : Bd.cells s ru rv lm km H = Bd.cells s ru' rv lm km H := by rw [show ru = ru' from funext h]
theorem jlx (q : Nat) (s : Bk.St) (ru : Nat → Bk.Un) (rv : Int) (lo ko : Option Nat) (H : Value) (K : Kv.St) (w : World) (h : BdIs w q s ru rv lo ko H K) (r : Rc.R) (hin : Rc.In r) (hk : r.kind = 4) (hc : Bk.chk s r = 0) : Calls Tryz.prog 68 #[.pointer (some ⟨q, 0, none⟩), .agg (Rc.cells r)] w (jaw q lo ko H (Bk.act s r) (.tuple #[]) w) := by
 have HR := zh (Bk.chk_right hc)
 have LK := zh (Bd.act_lok h.lok hc)
 have H0 := zh h
 rw [Bk.act4 hk] at LK ⊢
 have HK := zh hk
 have GQ : Hid (w.heap.size ≠ q) := by have := h.lt.1; show _ ≠ _; omega
 obtain ⟨s9, hs9⟩ : ∃ t, t = ({ s with h := Bk.last24 (s.h ++ [r]), ph := r.n, stable := if r.n = 3 then s.sp.v else s.stable } : Bk.St) := ⟨_, rfl⟩
 rw [← hs9] at LK ⊢
 have HS := zh hs9
 clear hs9
 obtain ⟨W, hW⟩ : ∃ W, W = w.alloc (.cells (Rc.cells r) 53) := ⟨_, rfl⟩
 obtain ⟨g, hg⟩ : ∃ g, g = w.heap.size := ⟨_, rfl⟩
 have R0 := zh (RdC.open_ h r)
 rw [← hW, ← hg] at R0
 rw [← hg] at GQ
 clear h hk hc hin
 go_enter Tryz.func68, Tryz.ntmps68
 go_upto_region 1 with fail
 rw [← hW, ← hg]
 clear hW hg
 have A0 := zh R0.out.bd.at_
 have C0 := zh R0.out.rc
 have K0 := zh (KQ.of R0.out.b q)
 have b9 := A0.out.cs.c9
 have c3 := C0.out.cs.c3
 have fz := fun i => A0.out.fz i
 have lq := A0.out.lt
 have lg := C0.out.cs.lt
 go_upto_region 2 with fail
 clear b9 c3 fz lq lg
 have A1 := zh (show BdAt ((W.setCell ⟨q, 9, none⟩ (.int .i64 r.n))) q _ _ _ _ _ _ from (A0.out.ph r.n))
 have C1 := zh (ja5 C0.out GQ.out (9) (.int .i64 r.n))
 have K1 := zh (KQ.set K0.out (9) (.int .i64 r.n))
 generalize hW1 : (W.setCell ⟨q, 9, none⟩ (.int .i64 r.n)) = W1 at *
 clear hW1
 clear A0 C0 K0
 by_cases h3 : r.n = 3
 ·have h32 : (r.n == 3) = true := by simpa using h3
  have H3 := zh h3
  clear h3
  have b7 := A1.out.cs.c7
  have b14 := A1.out.cs.c14
  have c3 := C1.out.cs.c3
  have fz := fun i => A1.out.fz i
  have lq := A1.out.lt
  have lg := C1.out.cs.lt
  go_upto_region 4 with fail
  clear b7 b14 c3 fz lq lg
  have A2 := zh (show BdAt ((W1.setCell ⟨q, 7, none⟩ (.int .i64 s.sp.v))) q _ _ _ _ _ _ from (A1.out.stable s.sp.v))
  have C2 := zh (ja5 C1.out GQ.out (7) (.int .i64 s.sp.v))
  have K2 := zh (KQ.set K1.out (7) (.int .i64 s.sp.v))
  generalize hW2 : (W1.setCell ⟨q, 7, none⟩ (.int .i64 s.sp.v)) = W2 at *
  clear hW2
  clear A1 C1 K1
  have CN := zh (jdm q ({ s with ph := r.n, stable := s.sp.v }) _ rv _ _ H r W2 A2.out (H0.out.hist K2.out) H0.out.qh H0.out.lok.ok.hl)
  go_wp2_with (first
   | ((with_reducible show zL 24); refine zR (.tmp 3) C2.out ?_)
   | (go_at_call 108; (with_reducible refine CN.out.mono ?_); rintro e w9 hn; obtain ⟨H9, rfl, hn⟩ := hn; have NP := zh (show jbu q ({ s with ph := r.n, stable := s.sp.v }) _ rv _ _ H r W2 _ w9 from ⟨H9, rfl, hn⟩); clear hn))
  go_end0
  exact jip (s' := s9) H0.out K2.out NP.out (by rw [HS.out, if_pos H3.out]) (by rw [HS.out]; rfl) (by rw [HS.out]) (by rw [HS.out]; exact H0.out.raw) LK.out
 ·have h32 : (r.n == 3) = false := by simpa using h3
  have H3 := zh h3
  clear h3
  have c3 := C1.out.cs.c3
  have fz := fun i => A1.out.fz i
  have lq := A1.out.lt
  have lg := C1.out.cs.lt
  go_upto_region 4 with fail
  clear c3 fz lq lg
  have CN := zh (jdm q ({ s with ph := r.n }) _ rv _ _ H r W1 A1.out (H0.out.hist K1.out) H0.out.qh H0.out.lok.ok.hl)
  go_wp2_with (first
   | ((with_reducible show zL 24); refine zR (.tmp 3) C1.out ?_)
   | (go_at_call 108; (with_reducible refine CN.out.mono ?_); rintro e w9 hn; obtain ⟨H9, rfl, hn⟩ := hn; have NP := zh (show jbu q ({ s with ph := r.n }) _ rv _ _ H r W1 _ w9 from ⟨H9, rfl, hn⟩); clear hn))
  go_end0
  exact jip (s' := s9) H0.out K1.out NP.out (by rw [HS.out, if_neg H3.out]) (by rw [HS.out]; rfl) (by rw [HS.out]) (by rw [HS.out]; exact H0.out.raw) LK.out
theorem jly (q : Nat) (s : Bk.St) (ru : Nat → Bk.Un) (rv : Int) (lo ko : Option Nat) (H : Value) (K : Kv.St) (w : World) (h : BdIs w q s ru rv lo ko H K) (r : Rc.R) (hin : Rc.In r) (hk : r.kind = 7) (hc : Bk.chk s r = 0) : Calls Tryz.prog 74 #[.pointer (some ⟨q, 0, none⟩), .agg (Rc.cells r)] w (jaw q lo ko H (Bk.act s r) (.tuple #[]) w) := by
 have HR := zh (Bk.chk_right hc)
 have LK := zh (Bd.act_lok h.lok hc)
 have H0 := zh h
 rw [Bk.act7 hk] at LK ⊢
 have HK := zh hk
 have GQ : Hid (w.heap.size ≠ q) := by have := h.lt.1; show _ ≠ _; omega
 obtain ⟨W, hW⟩ : ∃ W, W = w.alloc (.cells (Rc.cells r) 53) := ⟨_, rfl⟩
 obtain ⟨g, hg⟩ : ∃ g, g = w.heap.size := ⟨_, rfl⟩
 have R0 := zh (RdC.open_ h r)
 rw [← hW, ← hg] at R0
 rw [← hg] at GQ
 clear h hk hc hin
 go_enter Tryz.func74, Tryz.ntmps74
 go_upto_region 1 with fail
 rw [← hW, ← hg]
 clear hW hg
 have A0 := zh R0.out.bd.at_
 have C0 := zh R0.out.rc
 have K0 := zh (KQ.of R0.out.b q)
 have b10 := A0.out.cs.c10
 have b11 := A0.out.cs.c11
 have c2 := C0.out.cs.c2
 have c3 := C0.out.cs.c3
 have fz := fun i => A0.out.fz i
 have lq := A0.out.lt
 have lg := C0.out.cs.lt
 go_upto_region 1 with fail
 go_region
 clear b10 b11 c2 c3 fz lq lg
 have A1 := zh (show BdAt (((W.setCell ⟨q, 10, none⟩ (.int .i64 r.who)).setCell ⟨q, 11, none⟩ (.int .i64 r.n)).drew) q _ _ _ _ _ _ from (jc6 ((A0.out.step r.who).since r.n)))
 have C1 := zh (jew (ja5 (ja5 C0.out GQ.out (10) (.int .i64 r.who)) GQ.out (11) (.int .i64 r.n)))
 have K1 := zh (KQ.drew (KQ.set (KQ.set K0.out (10) (.int .i64 r.who)) (11) (.int .i64 r.n)))
 generalize hW1 : ((W.setCell ⟨q, 10, none⟩ (.int .i64 r.who)).setCell ⟨q, 11, none⟩ (.int .i64 r.n)).drew = W1 at *
 clear hW1
 have CN := zh (jdm q ({ s with step := r.who, since := r.n }) _ rv _ _ H r W1 A1.out (H0.out.hist K1.out) H0.out.qh H0.out.lok.ok.hl)
 go_wp2_with (first
  | ((with_reducible show zL 17); refine zR (.tmp 3) C1.out ?_)
  | (go_at_call 108; (with_reducible refine CN.out.mono ?_); rintro e w9 hn; obtain ⟨H9, rfl, hn⟩ := hn; have NP := zh (show jbu q ({ s with step := r.who, since := r.n }) _ rv _ _ H r W1 _ w9 from ⟨H9, rfl, hn⟩); clear hn))
 go_end0
 exact jip H0.out K1.out NP.out rfl rfl rfl H0.out.raw LK.out
theorem jlz (q : Nat) (s : Bk.St) (ru : Nat → Bk.Un) (rv : Int) (lo ko : Option Nat) (H : Value) (K : Kv.St) (w : World) (h : BdIs w q s ru rv lo ko H K) (r : Rc.R) (hin : Rc.In r) (hk : r.kind = 3) (hc : Bk.chk s r = 0) : Calls Tryz.prog 66 #[.pointer (some ⟨q, 0, none⟩), .agg (Rc.cells r)] w (jaw q lo ko H (Bk.act s r) (.tuple #[]) w) := by
 have HR := zh (Bk.chk_right hc)
 have LK := zh (Bd.act_lok h.lok hc)
 have H0 := zh h
 rw [Bk.act3 hk] at LK ⊢
 have HK := zh hk
 have GQ : Hid (w.heap.size ≠ q) := by have := h.lt.1; show _ ≠ _; omega
 obtain ⟨W, hW⟩ : ∃ W, W = w.alloc (.cells (Rc.cells r) 53) := ⟨_, rfl⟩
 obtain ⟨g, hg⟩ : ∃ g, g = w.heap.size := ⟨_, rfl⟩
 have R0 := zh (RdC.open_ h r)
 rw [← hW, ← hg] at R0
 rw [← hg] at GQ
 clear h hk hc hin
 go_enter Tryz.func66, Tryz.ntmps66
 go_upto_region 1 with fail
 rw [← hW, ← hg]
 clear hW hg
 have A0 := zh R0.out.bd.at_
 have C0 := zh R0.out.rc
 have K0 := zh (KQ.of R0.out.b q)
 have b7 := A0.out.cs.c7
 have b8 := A0.out.cs.c8
 have b9 := A0.out.cs.c9
 have b14 := A0.out.cs.c14
 have b15 := A0.out.cs.c15
 have b16 := A0.out.cs.c16
 have b17 := A0.out.cs.c17
 have b18 := A0.out.cs.c18
 have b19 := A0.out.cs.c19
 have b20 := A0.out.cs.c20
 have b21 := A0.out.cs.c21
 have b22 := A0.out.cs.c22
 have b23 := A0.out.cs.c23
 have b24 := A0.out.cs.c24
 have b25 := A0.out.cs.c25
 have c6 := C0.out.cs.c6
 have c7 := C0.out.cs.c7
 have c8 := C0.out.cs.c8
 have c9 := C0.out.cs.c9
 have c10 := C0.out.cs.c10
 have c11 := C0.out.cs.c11
 have c12 := C0.out.cs.c12
 have c13 := C0.out.cs.c13
 have c14 := C0.out.cs.c14
 have c15 := C0.out.cs.c15
 have c16 := C0.out.cs.c16
 have c17 := C0.out.cs.c17
 have fz := fun i => A0.out.fz i
 have lq := A0.out.lt
 have lg := C0.out.cs.lt
 go_upto_region 1 with fail
 go_region
 clear b7 b8 b9 b14 b15 b16 b17 b18 b19 b20 b21 b22 b23 b24 b25 c6 c7 c8 c9 c10 c11 c12 c13 c14 c15 c16 c17 fz lq lg
 have A1 := zh (show BdAt (((((((((((((((W.setCell ⟨q, 14, none⟩ (.int .i64 r.sp.v)).setCell ⟨q, 15, none⟩ (.int .i64 r.sp.d)).setCell ⟨q, 16, none⟩ (.int .i64 r.sp.u)).setCell ⟨q, 17, none⟩ (.int .i64 r.sp.n)).setCell ⟨q, 18, none⟩ (.int .i64 r.sp.g)).setCell ⟨q, 19, none⟩ (.int .i64 r.sp.a)).setCell ⟨q, 20, none⟩ (.int .i64 r.sp.b)).setCell ⟨q, 21, none⟩ (.int .i64 r.sp.c)).setCell ⟨q, 22, none⟩ (.int .i64 r.sp.e)).setCell ⟨q, 23, none⟩ (.int .i64 r.sp.w)).setCell ⟨q, 24, none⟩ (.int .i64 r.sp.x)).setCell ⟨q, 25, none⟩ (.int .i64 r.sp.k)).setCell ⟨q, 9, none⟩ (.int .i64 1)).setCell ⟨q, 8, none⟩ (.int .i64 s.stable)).drew) q _ _ _ _ _ _ from (jc6 (((A0.out.spec r.sp).ph 1).frm s.stable)))
 have C1 := zh (jew (ja5 (ja5 (ja5 (ja5 (ja5 (ja5 (ja5 (ja5 (ja5 (ja5 (ja5 (ja5 (ja5 (ja5 C0.out GQ.out (14) (.int .i64 r.sp.v)) GQ.out (15) (.int .i64 r.sp.d)) GQ.out (16) (.int .i64 r.sp.u)) GQ.out (17) (.int .i64 r.sp.n)) GQ.out (18) (.int .i64 r.sp.g)) GQ.out (19) (.int .i64 r.sp.a)) GQ.out (20) (.int .i64 r.sp.b)) GQ.out (21) (.int .i64 r.sp.c)) GQ.out (22) (.int .i64 r.sp.e)) GQ.out (23) (.int .i64 r.sp.w)) GQ.out (24) (.int .i64 r.sp.x)) GQ.out (25) (.int .i64 r.sp.k)) GQ.out (9) (.int .i64 1)) GQ.out (8) (.int .i64 s.stable)))
 have K1 := zh (KQ.drew (KQ.set (KQ.set (KQ.set (KQ.set (KQ.set (KQ.set (KQ.set (KQ.set (KQ.set (KQ.set (KQ.set (KQ.set (KQ.set (KQ.set K0.out (14) (.int .i64 r.sp.v)) (15) (.int .i64 r.sp.d)) (16) (.int .i64 r.sp.u)) (17) (.int .i64 r.sp.n)) (18) (.int .i64 r.sp.g)) (19) (.int .i64 r.sp.a)) (20) (.int .i64 r.sp.b)) (21) (.int .i64 r.sp.c)) (22) (.int .i64 r.sp.e)) (23) (.int .i64 r.sp.w)) (24) (.int .i64 r.sp.x)) (25) (.int .i64 r.sp.k)) (9) (.int .i64 1)) (8) (.int .i64 s.stable)))
 generalize hW1 : ((((((((((((((W.setCell ⟨q, 14, none⟩ (.int .i64 r.sp.v)).setCell ⟨q, 15, none⟩ (.int .i64 r.sp.d)).setCell ⟨q, 16, none⟩ (.int .i64 r.sp.u)).setCell ⟨q, 17, none⟩ (.int .i64 r.sp.n)).setCell ⟨q, 18, none⟩ (.int .i64 r.sp.g)).setCell ⟨q, 19, none⟩ (.int .i64 r.sp.a)).setCell ⟨q, 20, none⟩ (.int .i64 r.sp.b)).setCell ⟨q, 21, none⟩ (.int .i64 r.sp.c)).setCell ⟨q, 22, none⟩ (.int .i64 r.sp.e)).setCell ⟨q, 23, none⟩ (.int .i64 r.sp.w)).setCell ⟨q, 24, none⟩ (.int .i64 r.sp.x)).setCell ⟨q, 25, none⟩ (.int .i64 r.sp.k)).setCell ⟨q, 9, none⟩ (.int .i64 1)).setCell ⟨q, 8, none⟩ (.int .i64 s.stable)).drew = W1 at *
 clear hW1
 clear A0 C0 K0
 have b10 := A1.out.cs.c10
 have b11 := A1.out.cs.c11
 have b12 := A1.out.cs.c12
 have c3 := C1.out.cs.c3
 have fz := fun i => A1.out.fz i
 have lq := A1.out.lt
 have lg := C1.out.cs.lt
 go_upto_region 2 with fail
 go_region
 clear b10 b11 b12 c3 fz lq lg
 have A2 := zh (show BdAt ((((W1.setCell ⟨q, 10, none⟩ (.int .i64 0)).setCell ⟨q, 11, none⟩ (.int .i64 r.n)).setCell ⟨q, 12, none⟩ (.int .i64 r.n)).drew) q _ _ _ _ _ _ from (jc6 (((A1.out.step 0).since r.n).begun r.n)))
 have C2 := zh (jew (ja5 (ja5 (ja5 C1.out GQ.out (10) (.int .i64 0)) GQ.out (11) (.int .i64 r.n)) GQ.out (12) (.int .i64 r.n)))
 have K2 := zh (KQ.drew (KQ.set (KQ.set (KQ.set K1.out (10) (.int .i64 0)) (11) (.int .i64 r.n)) (12) (.int .i64 r.n)))
 generalize hW2 : (((W1.setCell ⟨q, 10, none⟩ (.int .i64 0)).setCell ⟨q, 11, none⟩ (.int .i64 r.n)).setCell ⟨q, 12, none⟩ (.int .i64 r.n)).drew = W2 at *
 clear hW2
 have CN := zh (jdm q ({ s with sp := r.sp, ph := 1, from_ := s.stable, step := 0, since := r.n, begun := r.n }) _ rv _ _ H r W2 A2.out (H0.out.hist K2.out) H0.out.qh H0.out.lok.ok.hl)
 go_wp2_with (first
  | ((with_reducible show zL 40); refine zR (.tmp 3) C2.out ?_)
  | (go_at_call 108; (with_reducible refine CN.out.mono ?_); rintro e w9 hn; obtain ⟨H9, rfl, hn⟩ := hn; have NP := zh (show jbu q ({ s with sp := r.sp, ph := 1, from_ := s.stable, step := 0, since := r.n, begun := r.n }) _ rv _ _ H r W2 _ w9 from ⟨H9, rfl, hn⟩); clear hn))
 go_end0
 exact jip H0.out K2.out NP.out rfl rfl rfl H0.out.raw LK.out
theorem jl0 (q : Nat) (s : Bk.St) (ru : Nat → Bk.Un) (rv : Int) (lo ko : Option Nat) (H : Value) (K : Kv.St) (w : World) (h : BdIs w q s ru rv lo ko H K) (r : Rc.R) (hin : Rc.In r) (hk : r.kind = 5) (hc : Bk.chk s r = 0) : Calls Tryz.prog 70 #[.pointer (some ⟨q, 0, none⟩), .agg (Rc.cells r)] w (jaw q lo ko H (Bk.act s r) (.tuple #[]) w) := by
 have HR := zh (Bk.chk_right hc)
 have LK := zh (Bd.act_lok h.lok hc)
 have H0 := zh h
 rw [Bk.act5 hk] at LK ⊢
 have HK := zh hk
 have GQ : Hid (w.heap.size ≠ q) := by have := h.lt.1; show _ ≠ _; omega
 obtain ⟨hw0, hw1, hw2⟩ := Rc.right5 hk HR.out
 obtain ⟨k, hkk⟩ := Int.eq_ofNat_of_zero_le hw0.1
 have k16 : k < 16 := by omega
 have i16 : (k : Int) < 16 := by omega
 have SQ0 : Hid (r.seq ≠ 0) := by show _ ≠ _; omega
 clear hw0 hw1 hw2
 rw [hkk, Int.toNat_natCast] at LK ⊢
 obtain ⟨W, hW⟩ : ∃ W, W = w.alloc (.cells (Rc.cells r) 53) := ⟨_, rfl⟩
 obtain ⟨g, hg⟩ : ∃ g, g = w.heap.size := ⟨_, rfl⟩
 have R0 := zh (RdC.open_ h r)
 rw [← hW, ← hg] at R0
 rw [← hg] at GQ
 clear h hk hc hin
 go_enter Tryz.func70, Tryz.ntmps70
 go_upto_region 1 with fail
 rw [← hW, ← hg]
 clear hW hg
 have A0 := zh R0.out.bd.at_
 have C0 := zh R0.out.rc
 have K0 := zh (KQ.of R0.out.b q)
 have c2 := C0.out.cs.c2
 have c3 := C0.out.cs.c3
 have c4 := C0.out.cs.c4
 have fz := fun i => A0.out.fz i
 have lq := A0.out.lt
 have lg := C0.out.cs.lt
 obtain ⟨u0, u1, u2⟩ := A0.out.unit k16
 rw [hkk] at c2
 go_upto_region 1 with fail
 go_region
 clear c2 c3 c4 fz lq lg
 clear u0 u1 u2
 have A1 := zh (show BdAt ((((W.setCell ⟨q, 26 + k * 3, none⟩ (.int .i64 r.n)).setCell ⟨q, 26 + k * 3 + 1, none⟩ (.int .i64 r.seq)).setCell ⟨q, 26 + k * 3 + 2, none⟩ (.bool false)).drew) q _ _ _ _ _ _ from (jc6 (((A0.out.unitV k16 r.n).unitQ k16 r.seq).unitD k16 false)))
 have C1 := zh (jew (ja5 (ja5 (ja5 C0.out GQ.out (26 + k * 3) (.int .i64 r.n)) GQ.out (26 + k * 3 + 1) (.int .i64 r.seq)) GQ.out (26 + k * 3 + 2) (.bool false)))
 have K1 := zh (KQ.drew (KQ.set (KQ.set (KQ.set K0.out (26 + k * 3) (.int .i64 r.n)) (26 + k * 3 + 1) (.int .i64 r.seq)) (26 + k * 3 + 2) (.bool false)))
 generalize hW1 : (((W.setCell ⟨q, 26 + k * 3, none⟩ (.int .i64 r.n)).setCell ⟨q, 26 + k * 3 + 1, none⟩ (.int .i64 r.seq)).setCell ⟨q, 26 + k * 3 + 2, none⟩ (.bool false)).drew = W1 at *
 clear hW1
 clear A0 C0 K0
 have b13 := A1.out.cs.c13
 have c4 := C1.out.cs.c4
 have fz := fun i => A1.out.fz i
 have lq := A1.out.lt
 have lg := C1.out.cs.lt
 go_wp2_with fail
 clear b13 c4 fz lq lg
 have A2 := zh (show BdAt ((W1.setCell ⟨q, 13, none⟩ (.int .i64 r.seq))) q _ _ _ _ _ _ from (A1.out.seq r.seq))
 have C2 := zh (ja5 C1.out GQ.out (13) (.int .i64 r.seq))
 have K2 := zh (KQ.set K1.out (13) (.int .i64 r.seq))
 generalize hW2 : (W1.setCell ⟨q, 13, none⟩ (.int .i64 r.seq)) = W2 at *
 clear hW2
 go_end0
 refine turn_q H0.out K2.out (ru' := Bk.setU ru k ⟨r.n, r.seq, false⟩) ⟨by rw [A2.out.row]; congr 2; exact jn2 fun i => by unfold Bk.setU; by_cases h : i = k <;> simp [h]⟩ rfl rfl rfl (H0.out.raw.intent k r.n r.seq SQ0.out) LK.out
theorem jl1 (q : Nat) (s : Bk.St) (ru : Nat → Bk.Un) (rv : Int) (lo ko : Option Nat) (H : Value) (K : Kv.St) (w : World) (h : BdIs w q s ru rv lo ko H K) (r : Rc.R) (hin : Rc.In r) (hk : r.kind = 6) (hc : Bk.chk s r = 0) : Calls Tryz.prog 72 #[.pointer (some ⟨q, 0, none⟩), .agg (Rc.cells r)] w (jaw q lo ko H (Bk.act s r) (.tuple #[]) w) := by
 have HR := zh (Bk.chk_right hc)
 have LK := zh (Bd.act_lok h.lok hc)
 have H0 := zh h
 rw [Bk.act6 hk] at LK ⊢
 have HK := zh hk
 have GQ : Hid (w.heap.size ≠ q) := by have := h.lt.1; show _ ≠ _; omega
 obtain ⟨hw0, hw1⟩ := Rc.right6 hk HR.out
 obtain ⟨k, hkk⟩ := Int.eq_ofNat_of_zero_le hw0.1
 have k16 : k < 16 := by omega
 have i16 : (k : Int) < 16 := by omega
 have SQ0 : Hid ((ru k).q ≠ 0) := by
  have h1 := Bk.six_ok (by rw [← Bk.chk_six HR.out hk (Bk.chk_epoch hc (by omega))]; exact hc)
  have h2 := (h.raw k k16).1
  rw [hkk, Int.toNat_natCast, h2] at h1
  have h3 : (ru k).q = r.seq := h1.1
  show _ ≠ _
  omega
 clear hw0 hw1
 rw [hkk, Int.toNat_natCast] at LK ⊢
 obtain ⟨W, hW⟩ : ∃ W, W = w.alloc (.cells (Rc.cells r) 53) := ⟨_, rfl⟩
 obtain ⟨g, hg⟩ : ∃ g, g = w.heap.size := ⟨_, rfl⟩
 have R0 := zh (RdC.open_ h r)
 rw [← hW, ← hg] at R0
 rw [← hg] at GQ
 clear h hk hc hin
 go_enter Tryz.func72, Tryz.ntmps72
 go_upto_region 1 with fail
 rw [← hW, ← hg]
 clear hW hg
 have A0 := zh R0.out.bd.at_
 have C0 := zh R0.out.rc
 have K0 := zh (KQ.of R0.out.b q)
 have c2 := C0.out.cs.c2
 have fz := fun i => A0.out.fz i
 have lq := A0.out.lt
 have lg := C0.out.cs.lt
 obtain ⟨u0, u1, u2⟩ := A0.out.unit k16
 rw [hkk] at c2
 go_upto_region 1 with fail
 go_region
 clear c2 fz lq lg
 clear u0 u1 u2
 have A1 := zh (show BdAt ((W.setCell ⟨q, 26 + k * 3 + 2, none⟩ (.bool true)).drew) q _ _ _ _ _ _ from (jc6 (A0.out.unitD k16 true)))
 have C1 := zh (jew (ja5 C0.out GQ.out (26 + k * 3 + 2) (.bool true)))
 have K1 := zh (KQ.drew (KQ.set K0.out (26 + k * 3 + 2) (.bool true)))
 generalize hW1 : (W.setCell ⟨q, 26 + k * 3 + 2, none⟩ (.bool true)).drew = W1 at *
 clear hW1
 go_wp2_with fail
 go_end0
 exact turn_q H0.out K1.out (A1.out.us _) rfl rfl rfl (H0.out.raw.ack k k16 SQ0.out) LK.out
end Go.Proofs.YtnacjhnfkkddcaaGreatDoor
