/-
  The document's package of layer 14: Twice, Take, Drop. Written by wip/tools/gen/ntr4.py. No condition.
-/
import Derived.Test.YtmhhjipdbfepiaaNtR3
import Derived.Test.YtmhhjipdbfepiaaNd3
namespace Go.Proofs.Ytmhhjipdbfepiaa
open Go.RowKit Go.Deep
set_option linter.unusedSimpArgs false
set_option linter.unusedVariables false
set_option maxRecDepth 100000

section
variable {w : World} {op : Oper} {a : Act} {Q : Exit → Act → World → Prop} {K : Act → World → Prop} {g q : Nat} {rm se lo rm2 se2 lo2 : Int} {V V2 : Value}
theorem take_nr (x : Operand) (ho : op.op = .load 28 x) (hx : a.eval x = .pointer (some ⟨g, 0, none⟩)) (hg : NrAt w g rm V se lo) : (execOp a.eval op).run Try.prog w = .ok (.value (nrV rm V se lo)) w := by
  have := run_loadVar_row (P := Try.prog) w g 28 28 #[.int .i64 rm, V, .int .i64 se, .int .i64 lo] (0, 0) _ hg.row nr_fields rfl (nr_size rm V se lo)
  unfold execOp
  simp only [ho, hx, Instr.loadAt, Instr.sureAddr, Sem.run_bind, Sem.run_pure, Result.andThen_ok, this]
theorem run_store_nr (x y : Operand) (ho : op.op = .store 28 x y) (hx : a.eval x = .pointer (some ⟨g, 0, none⟩)) (hy : a.eval y = nrV rm2 V2 se2 lo2) (hV : V2.oneCell' = true) (hg : NrAt w g rm V se lo)
    (h : ∀ w', NrAt w' g rm2 V2 se2 lo2 → w.grownBy w' (some g) → K (a.put op.dst undef) w') : Oper.wp Try.prog op a w K Q :=
  wp_store_row 28 x y ho g _ hx hy 28 _ hg.row (nr_size rm2 V2 se2 lo2) rfl (nr_one hV) (h _ ⟨setRow_heap w g _ _ _ _ hg.row⟩ (grown_row w g _))
theorem run_store_msg (x y : Operand) (ho : op.op = .store 32 x y) (m m2 : Nt.M) (hx : a.eval x = .pointer (some ⟨g, 0, none⟩)) (hy : a.eval y = Nt.val m2) (hg : NtAt w g m)
    (h : ∀ w', NtAt w' g m2 → w.grownBy w' (some g) → K (a.put op.dst undef) w') : Oper.wp Try.prog op a w K Q :=
  wp_store_row 32 x y ho g _ hx hy 32 _ hg.row (msg_size' m2) rfl (msg_one m2) (h _ ⟨setRow_heap w g _ _ _ _ hg.row⟩ (grown_row w g _))
theorem nr_results3 {fn : Func} {p r u : Tmp} (h : fn.results = #[.cell p 28, .cell r 32, .tmp u]) (tmps : Array Value) (m : Nt.M) (hp : tmps.getD p undef = .pointer (some ⟨g, 0, none⟩)) (hr : tmps.getD r undef = .pointer (some ⟨q, 0, none⟩)) (hg : NrAt w g rm V se lo) (hq : NtAt w q m) :
    (results fn tmps).run Try.prog w = .ok (.tuple #[nrV rm V se lo, Nt.val m, tmps.getD u undef]) w := by
  have h1 := run_loadVar_row (P := Try.prog) w g 28 28 #[.int .i64 rm, V, .int .i64 se, .int .i64 lo] (0, 0) _ hg.row nr_fields rfl (nr_size rm V se lo)
  have h2 := run_loadVar_row (P := Try.prog) w q 32 32 (Nt.cs m) (0, 0) _ hq.row msg_fields rfl (msg_size' m)
  rw [Array.getD_eq_getD_getElem?] at hp hr
  simp only [results, h]
  simp [Sem.run_bind, Result.andThen, hp, hr, asAddr, h1, h2]
end
set_option maxHeartbeats 3200000 in
theorem rttwice_none (rm : Int) (A : Option Addr) (n c : Nat) (l : List Nt.M) (se lo at_ : Int) (w : World) (hs : SlF Nt.mC w A n c l) (hn0 : n = 0) :
    Calls Try.prog 21 #[nrV rm (.slice A n c) se lo, .int .i64 at_] w (RPost A rm n l se lo (fun v => .tuple #[v, .int .i64 5]) w) := by
  subst hn0
  have CP := Lib.hid (fun W => rtplace_no rm A c se lo at_ W)
  obtain ⟨W, hW⟩ : ∃ W, W = (w.alloc (.cells #[.int .i64 rm, .slice A 0 c, .int .i64 se, .int .i64 lo] 28)).alloc (.cells #[.int .i64 0, .slice none 0 0, .int .i64 0, .int .i64 0] 28) := ⟨_, rfl⟩
  obtain ⟨r1, r2, hb, hz⟩ := two_new hW
  have SH := Lib.hid hs
  clear hs
  go_enter Try.func21, Try.ntmps21
  go_upto_region 1 with fail
  rw [← hW]
  clear hW
  obtain ⟨g, hg⟩ : ∃ g, g = w.heap.size := ⟨_, rfl⟩
  rw [← hg] at r1 r2 hz ⊢
  have X1 : Hid (NrAt W g rm (.slice A 0 c) se lo) := ⟨r1⟩
  have X3 : Hid (NrAt W (g + 1) 0 (.slice none 0 0) 0 0) := ⟨r2⟩
  have HG := Lib.hid hg
  have B := Lib.hid hb
  have SZ := Lib.hid hz
  clear hg r1 r2 hz hb
  go_upto_region 3 with (first
    | ((with_reducible show wpList _ _ _ ({ dst := some 7, op := .load _ _, type := _, pos := _, after := _, guard := _ } :: _) _ _); refine wpList_load_nr rfl (.tmp 2) rfl rfl X1.out ?_)
    | (go_at_call 35; (with_reducible refine (CP.out _).mono ?_); rintro e w3 ⟨rfl, hb3⟩; have Y1 := Lib.hid (X1.out.on hb3); have Y3 := Lib.hid (X3.out.on hb3); have B3 := Lib.hid (B.out.trans (hb3.mono B.out.size)); have S3 := Lib.hid hb3.size; clear hb3))
  clear CP X1 X3
  go_wp2_with (first
    | ((with_reducible show wpList _ _ _ ({ dst := some 12, op := .load _ _, type := _, pos := _, after := _, guard := _ } :: _) _ _); refine wpList_load_nr rfl (.tmp 2) rfl rfl Y1.out ?_)
    | (((with_reducible show wpList _ _ _ ({ dst := none, op := .store _ _ _, type := _, pos := _, after := _, guard := _ } :: _) _ _); refine wpList_store_nr rfl (.tmp 4) (.tmp 12) rfl rfl rfl rfl Y3.out ?_); intro w6 hx6 hg6; have ZR := Lib.hid hx6; have B6 := Lib.hid (B3.out.grown hg6 B3.out.size (fun b hb => by injection hb with hb; have := HG.out; omega)); clear hx6 hg6))
  exact bodyPost_ret (nr_results2 Try.results21 _ rfl ZR.out) rfl ⟨A, c, rfl, SH.out.on B6.out, .inl rfl, B6.out⟩
set_option maxHeartbeats 3200000 in
theorem rttwice_full (rm : Int) (A : Option Addr) (n c : Nat) (l : List Nt.M) (se lo at_ : Int) (w : World) (hs : SlF Nt.mC w A n c l) (hn0 : 0 < n) (hl : n ≤ 1000) (ha : Nt.i64 at_) {m : Nt.M} (hm : l[Nt.pl n at_]? = some m) (hge : rm ≤ (n : Int)) (hlo : 0 ≤ lo ∧ lo ≤ 1000000) :
    Calls Try.prog 21 #[nrV rm (.slice A n c) se lo, .int .i64 at_] w (RPost A rm n l se (lo + 1) (fun v => .tuple #[v, .int .i64 4]) w) := by
  obtain ⟨k, hk⟩ : ∃ k, k = Nt.pl n at_ := ⟨_, rfl⟩
  have hkn : k < n := by rw [hk]; exact Nt.pl_lt hn0 at_
  have CP := Lib.hid (fun W => rtplace_yes rm A n c se lo at_ hn0 (by omega) ha W)
  rw [← hk] at CP hm
  have CK := hs.cap
  have HL := Lib.hid hl
  have HM := Lib.hid hm
  have i1 : (0 : Int) ≤ (k : Int) := by omega
  have i2 : (k : Int) < (n : Int) := by omega
  have i3 : ¬ ((k : Int) < 0) := by omega
  clear hk ha hm hl
  obtain ⟨W, hW⟩ : ∃ W, W = (w.alloc (.cells #[.int .i64 rm, .slice A n c, .int .i64 se, .int .i64 lo] 28)).alloc (.cells #[.int .i64 0, .slice none 0 0, .int .i64 0, .int .i64 0] 28) := ⟨_, rfl⟩
  obtain ⟨r1, r2, hb, hz⟩ := two_new hW
  have SH := Lib.hid hs
  clear hs
  go_enter Try.func21, Try.ntmps21
  go_upto_region 1 with fail
  rw [← hW]
  clear hW
  obtain ⟨g, hg⟩ : ∃ g, g = w.heap.size := ⟨_, rfl⟩
  rw [← hg] at r1 r2 hz ⊢
  have X1 : Hid (NrAt W g rm (.slice A n c) se lo) := ⟨r1⟩
  have X3 : Hid (NrAt W (g + 1) 0 (.slice none 0 0) 0 0) := ⟨r2⟩
  have HG := Lib.hid hg
  have B := Lib.hid hb
  have SZ := Lib.hid hz
  clear hg r1 r2 hz hb
  go_upto_region 4 with (first
    | ((with_reducible show wpList _ _ _ ({ dst := some 7, op := .load _ _, type := _, pos := _, after := _, guard := _ } :: _) _ _); refine wpList_load_nr rfl (.tmp 2) rfl rfl X1.out ?_)
    | (go_at_call 35; (with_reducible refine (CP.out _).mono ?_); rintro e w3 ⟨rfl, hb3⟩; have Y1 := Lib.hid (X1.out.on hb3); have Y3 := Lib.hid (X3.out.on hb3); have B3 := Lib.hid (B.out.trans (hb3.mono B.out.size)); have S3 := Lib.hid hb3.size; clear hb3))
  clear CP X1 X3
  have hl1 : wrap64 (lo + 1) = lo + 1 := IntWalk.wrap64_in _ ⟨by omega, by omega⟩
  clear hlo
  obtain ⟨x0, x1, x2, x3, xf, xl⟩ := Y1.out.cs
  go_upto_region 6 with fail
  clear x0 x1 x2 x3 xf xl
  obtain ⟨w5, hw5⟩ : ∃ w5, w5 = w3.setCell ⟨g, 3, none⟩ (.int .i64 (lo + 1)) := ⟨_, rfl⟩
  have ZA : Hid (NrAt w5 g rm (.slice A n c) se (lo + 1)) := by rw [hw5]; exact Y1.out.setL _
  have ZB : Hid (NrAt w5 (g + 1) 0 (.slice none 0 0) 0 0) := Y3.out.keep (by rw [hw5]; exact blk_set (by omega))
  have B5 : Hid (Below w.heap.size w w5) := by rw [hw5]; exact B3.out.grown (grown_set _ _ _ _) B3.out.size (fun b hb => by injection hb with hb; have := HG.out; omega)
  rw [← hw5]
  clear hw5 Y1 Y3
  go_wp2_with (first
    | ((with_reducible show wpList _ _ _ ({ dst := some 23, op := .load _ _, type := _, pos := _, after := _, guard := _ } :: _) _ _); refine wpList_load_nr rfl (.tmp 2) rfl rfl ZA.out ?_)
    | (((with_reducible show wpList _ _ _ ({ dst := none, op := .store _ _ _, type := _, pos := _, after := _, guard := _ } :: _) _ _); refine wpList_store_nr rfl (.tmp 4) (.tmp 23) rfl rfl rfl rfl ZB.out ?_); intro w6 hx6 hg6; have ZR := Lib.hid hx6; have B6 := Lib.hid (B5.out.grown hg6 B5.out.size (fun b hb => by injection hb with hb; have := HG.out; omega)); clear hx6 hg6))
  exact bodyPost_ret (nr_results2 Try.results21 _ rfl ZR.out) rfl ⟨A, c, rfl, SH.out.on B6.out, .inl rfl, B6.out⟩
set_option maxHeartbeats 3200000 in
theorem rttwice_ok (rm : Int) (A : Option Addr) (n c : Nat) (l : List Nt.M) (se lo at_ : Int) (w : World) (hs : SlF Nt.mC w A n c l) (hn0 : 0 < n) (hl : n ≤ 1000) (ha : Nt.i64 at_) {m : Nt.M} (hm : l[Nt.pl n at_]? = some m) (hge : (n : Int) < rm) :
    Calls Try.prog 21 #[nrV rm (.slice A n c) se lo, .int .i64 at_] w (RPost none rm (n + 1) (l ++ [m]) se lo (fun v => .tuple #[v, .int .i64 0]) w) := by
  obtain ⟨k, hk⟩ : ∃ k, k = Nt.pl n at_ := ⟨_, rfl⟩
  have hkn : k < n := by rw [hk]; exact Nt.pl_lt hn0 at_
  have CP := Lib.hid (fun W => rtplace_yes rm A n c se lo at_ hn0 (by omega) ha W)
  rw [← hk] at CP hm
  have CK := hs.cap
  have HL := Lib.hid hl
  have HM := Lib.hid hm
  have i1 : (0 : Int) ≤ (k : Int) := by omega
  have i2 : (k : Int) < (n : Int) := by omega
  have i3 : ¬ ((k : Int) < 0) := by omega
  clear hk ha hm hl
  have hge2 : ¬ (rm ≤ (n : Int)) := by omega
  obtain ⟨W, hW⟩ : ∃ W, W = (w.alloc (.cells #[.int .i64 rm, .slice A n c, .int .i64 se, .int .i64 lo] 28)).alloc (.cells #[.int .i64 0, .slice none 0 0, .int .i64 0, .int .i64 0] 28) := ⟨_, rfl⟩
  obtain ⟨r1, r2, hb, hz⟩ := two_new hW
  have SH := Lib.hid hs
  clear hs
  go_enter Try.func21, Try.ntmps21
  go_upto_region 1 with fail
  rw [← hW]
  clear hW
  obtain ⟨g, hg⟩ : ∃ g, g = w.heap.size := ⟨_, rfl⟩
  rw [← hg] at r1 r2 hz ⊢
  have X1 : Hid (NrAt W g rm (.slice A n c) se lo) := ⟨r1⟩
  have X3 : Hid (NrAt W (g + 1) 0 (.slice none 0 0) 0 0) := ⟨r2⟩
  have HG := Lib.hid hg
  have B := Lib.hid hb
  have SZ := Lib.hid hz
  clear hg r1 r2 hz hb
  obtain ⟨b, o, rfl, hbl, hrg⟩ := nt_range SH.out HM.out
  have HBL := Lib.hid hbl
  have RG := Lib.hid hrg
  clear hbl hrg
  go_upto_region 4 with (first
    | ((with_reducible show wpList _ _ _ ({ dst := some 7, op := .load _ _, type := _, pos := _, after := _, guard := _ } :: _) _ _); refine wpList_load_nr rfl (.tmp 2) rfl rfl X1.out ?_)
    | (go_at_call 35; (with_reducible refine (CP.out _).mono ?_); rintro e w3 ⟨rfl, hb3⟩; have Y1 := Lib.hid (X1.out.on hb3); have Y3 := Lib.hid (X3.out.on hb3); have B3 := Lib.hid (B.out.trans (hb3.mono B.out.size)); have S3 := Lib.hid hb3.size; clear hb3))
  clear CP X1 X3
  obtain ⟨x0, x1, x2, x3, xf, xl⟩ := Y1.out.cs
  go_upto_region 7 with fail
  clear x0 x1 x2 x3 xf xl
  have D3 := Lib.hid ((Below.refl w3.heap.size w3).drew)
  have Y1 := Lib.hid (Y1.out.on D3.out)
  have Y3 := Lib.hid (Y3.out.on D3.out)
  have B3 := Lib.hid (B3.out.trans (D3.out.mono B3.out.size))
  have RG := Lib.hid (nrange_on RG.out (B3.out.block b HBL.out))
  clear D3
  generalize hw4 : w3.drew = w4 at *
  refine wp_region_held_drew (S := fun X => NrAt X g rm (.slice (some ⟨b, o, none⟩) n c) se lo ∧ X.rangeAt b (o + k * 6) (Nt.mC m)) (by kernel_rfl) (by rw [hw4]; exact ⟨Y1.out, RG.out⟩) (fun hS => ?_)
  rw [hw4] at hS ⊢
  clear hw4
  refine tkYes 0 (v := nrV rm (.slice (some ⟨b, o, none⟩) n c) se lo) rfl (by kernel_rfl) (fun _ _ _ h => h) rfl (fun W hW => take_nr (.tmp 2) rfl rfl hW.1) hS ?_
  simp only [Act.put, List.setIfInBounds_toArray, List.set_cons_zero, List.set_cons_succ]
  refine tkYes 1 (v := ?_) rfl (by kernel_rfl) (fun _ _ _ h => h) rfl ?_ hS ?_
  rotate_left
  · intro W hW; go_simp; (try with_reducible rfl)
  simp only [Act.put, List.setIfInBounds_toArray, List.set_cons_zero, List.set_cons_succ]
  refine tkYes 2 (v := ?_) rfl (by kernel_rfl) (fun _ _ _ h => h) rfl ?_ hS ?_
  rotate_left
  · intro W hW; obtain ⟨x0, x1, x2, x3, xf, xl⟩ := hW.1.cs; go_simp; (try with_reducible rfl)
  simp only [Act.put, List.setIfInBounds_toArray, List.set_cons_zero, List.set_cons_succ]
  refine tkYes 3 (v := ?_) rfl (by kernel_rfl) (fun _ _ _ h => h) rfl ?_ hS ?_
  rotate_left
  · intro W hW; go_simp; (try with_reducible rfl)
  simp only [Act.put, List.setIfInBounds_toArray, List.set_cons_zero, List.set_cons_succ]
  refine tkYes 4 (v := ?_) rfl (by kernel_rfl) (fun _ _ _ h => h) rfl ?_ hS ?_
  rotate_left
  · intro W hW; go_simp; (try with_reducible rfl)
  simp only [Act.put, List.setIfInBounds_toArray, List.set_cons_zero, List.set_cons_succ]
  refine tkYes 5 (v := Nt.val m) rfl (by kernel_rfl) (fun _ _ _ h => h) rfl (fun W hW => take_msg (.tmp 28) rfl b (o + k * 6) m (by simp [Act.eval, go_sem]) hW.2) hS ?_
  simp only [Act.put, List.setIfInBounds_toArray, List.set_cons_zero, List.set_cons_succ]
  refine rnOne 6 rfl (by kernel_rfl) rfl (fun K hK => ?_)
  go_simp
  with_reducible refine (rtpush_any rm (some ⟨b, o, none⟩) n c l se lo m _ (SH.out.on B3.out) HL.out).mono ?_
  rintro e w7 ⟨A7, c7, rfl, hs7, hn7, hb7⟩
  have S7 := Lib.hid hs7
  have N7 := Lib.hid hn7
  have ZB7 := Lib.hid (Y3.out.on hb7)
  have B7 := Lib.hid (B3.out.trans (hb7.mono B3.out.size))
  have hS2 : NrAt w7 g rm (.slice (some ⟨b, o, none⟩) n c) se lo ∧ w7.rangeAt b (o + k * 6) (Nt.mC m) := ⟨hS.1.on hb7, nrange_on hS.2 (hb7.block b (Nat.lt_of_lt_of_le HBL.out B3.out.size))⟩
  have E7 := Lib.hid hb7.size
  clear hS hs7 hn7 hb7
  have hS := hS2
  clear hS2
  refine hK.out _ _ hS (fun _ => ?_)
  clear hK K
  try simp only [Act.put, List.setIfInBounds_toArray, List.set_cons_zero, List.set_cons_succ]
  refine rnOne 7 rfl (by kernel_rfl) rfl (fun K hK => ?_)
  refine run_store_nr (.tmp 4) (.tmp 30) rfl rfl rfl rfl ZB7.out ?_
  intro w8 hx8 hg8
  have ZR := Lib.hid hx8
  have G8 := Lib.hid hg8
  have hS2 : NrAt w8 g rm (.slice (some ⟨b, o, none⟩) n c) se lo ∧ w8.rangeAt b (o + k * 6) (Nt.mC m) := ⟨hS.1.keep (hg8.block g hS.1.cs.lt (fun e => by injection e with e; omega)), nrange_on hS.2 (hg8.block b (Nat.lt_of_lt_of_le HBL.out B7.out.size) (fun e => by injection e with e; have := HBL.out; have := HG.out; omega))⟩
  clear hS hx8 hg8
  have hS := hS2
  clear hS2
  refine hK.out _ _ hS (fun _ => ?_)
  clear hK K
  try simp only [Act.put, List.setIfInBounds_toArray, List.set_cons_zero, List.set_cons_succ]
  refine tkYes 8 (v := ?_) rfl (by kernel_rfl) (fun _ _ _ h => h) rfl ?_ hS ?_
  rotate_left
  · intro W hW; go_simp; (try with_reducible rfl)
  simp only [Act.put, List.setIfInBounds_toArray, List.set_cons_zero, List.set_cons_succ]
  refine wpAnyH_done (by kernel_rfl) ?_ _
  go_wp2_with fail
  have hsl : SlF Nt.mC w8 A7 (n + 1) c7 (l ++ [m]) := S7.out.keep G8.out.size (fun b2 o2 hA hp => by
    have h1 := N7.out b2 o2 hA
    obtain ⟨b', o', e1, e2, _⟩ := S7.out.rd hp
    rw [hA] at e1
    injection e1 with e1
    injection e1 with e1 _
    exact G8.out.block b2 (by omega) (fun e => by injection e with e; have := Y3.out.cs.lt; omega))
  have b8 : Below w.heap.size w w8 := B7.out.grown G8.out B7.out.size (fun b hb => by injection hb with hb; have := HG.out; omega)
  exact bodyPost_ret (nr_results2 Try.results21 _ rfl ZR.out) rfl ⟨A7, c7, rfl, hsl, .inr (N7.out.from_ B3.out.size), b8⟩
set_option maxHeartbeats 3200000 in
theorem rttake_none (rm : Int) (A : Option Addr) (n c : Nat) (l : List Nt.M) (se lo at_ : Int) (w : World) (hs : SlF Nt.mC w A n c l) (hn0 : n = 0) :
    Calls Try.prog 17 #[nrV rm (.slice A n c) se lo, .int .i64 at_] w (RPost A rm n l se lo (fun v => .tuple #[v, Nt.val Nt.zero, .bool false]) w) := by
  subst hn0
  have CP := Lib.hid (fun W => rtplace_no rm A c se lo at_ W)
  obtain ⟨W, hW⟩ : ∃ W, W = ((w.alloc (.cells #[.int .i64 rm, .slice A 0 c, .int .i64 se, .int .i64 lo] 28)).alloc (.cells #[.int .i64 0, .slice none 0 0, .int .i64 0, .int .i64 0] 28)).alloc (.cells #[.int .i64 0, .int .i64 0, .int .i64 0, .int .i64 0, .int .i64 0, .int .i64 0] 32) := ⟨_, rfl⟩
  obtain ⟨r1, r2, r3, hb, hz⟩ := three_new hW
  have SH := Lib.hid hs
  clear hs
  go_enter Try.func17, Try.ntmps17
  go_upto_region 1 with fail
  rw [← hW]
  clear hW
  obtain ⟨g, hg⟩ : ∃ g, g = w.heap.size := ⟨_, rfl⟩
  rw [← hg] at r1 r2 r3 hz ⊢
  have X1 : Hid (NrAt W g rm (.slice A 0 c) se lo) := ⟨r1⟩
  have X3 : Hid (NrAt W (g + 1) 0 (.slice none 0 0) 0 0) := ⟨r2⟩
  have X2 : Hid (NtAt W (g + 1 + 1) Nt.zero) := ⟨r3⟩
  have HG := Lib.hid hg
  have B := Lib.hid hb
  have SZ := Lib.hid hz
  clear hg r1 r2 r3 hz hb
  go_upto_region 3 with (first
    | ((with_reducible show wpList _ _ _ ({ dst := some 10, op := .load _ _, type := _, pos := _, after := _, guard := _ } :: _) _ _); refine wpList_load_nr rfl (.tmp 2) rfl rfl X1.out ?_)
    | (go_at_call 35; (with_reducible refine (CP.out _).mono ?_); rintro e w3 ⟨rfl, hb3⟩; have Y1 := Lib.hid (X1.out.on hb3); have Y3 := Lib.hid (X3.out.on hb3); have Y2 := Lib.hid (X2.out.on hb3); have B3 := Lib.hid (B.out.trans (hb3.mono B.out.size)); have S3 := Lib.hid hb3.size; clear hb3))
  clear CP X1 X3
  clear X2
  go_wp2_with (first
    | ((with_reducible show wpList _ _ _ ({ dst := some 15, op := .load _ _, type := _, pos := _, after := _, guard := _ } :: _) _ _); refine wpList_load_nr rfl (.tmp 2) rfl rfl Y1.out ?_)
    | (((with_reducible show wpList _ _ _ ({ dst := none, op := .store _ _ _, type := _, pos := _, after := _, guard := _ } :: _) _ _); refine wpList_store_nr rfl (.tmp 4) (.tmp 15) rfl rfl rfl rfl Y3.out ?_); intro w6 hx6 hg6; have ZR := Lib.hid hx6; have B6 := Lib.hid (B3.out.grown hg6 B3.out.size (fun b hb => by injection hb with hb; have := HG.out; omega)); have Z2 := Lib.hid (Y2.out.keep (hg6.block _ Y2.out.cs.lt (fun e => by injection e with e; omega))); clear hx6 hg6)
    | (((with_reducible show wpList _ _ _ ({ dst := none, op := .store _ _ _, type := _, pos := _, after := _, guard := _ } :: _) _ _); refine wpList_store_msg rfl (.tmp 5) (.tmp 16) rfl Nt.zero Nt.zero rfl rfl Z2.out ?_); intro w7 hx7 hg7; have ZM := Lib.hid hx7; have B7 := Lib.hid (B6.out.grown hg7 B6.out.size (fun b hb => by injection hb with hb; have := HG.out; omega)); have ZQ := Lib.hid (ZR.out.keep (hg7.block _ ZR.out.cs.lt (fun e => by injection e with e; omega))); clear hx7 hg7))
  exact bodyPost_ret (nr_results3 Try.results17 _ _ rfl rfl ZQ.out ZM.out) rfl ⟨A, c, rfl, SH.out.on B7.out, .inl rfl, B7.out⟩
set_option maxHeartbeats 3200000 in
theorem rttake_yes (rm : Int) (A : Option Addr) (n c : Nat) (l : List Nt.M) (se lo at_ : Int) (w : World) (hs : SlF Nt.mC w A n c l) (hn0 : 0 < n) (hl : n ≤ 1000) (ha : Nt.i64 at_) {m : Nt.M} (hm : l[Nt.pl n at_]? = some m) :
    Calls Try.prog 17 #[nrV rm (.slice A n c) se lo, .int .i64 at_] w (RPost A rm (n - 1) (Nt.cutL l (Nt.pl n at_)) se lo (fun v => .tuple #[v, Nt.val m, .bool true]) w) := by
  have LN : Hid (l.length = n) := hs.len.symm
  obtain ⟨k, hk⟩ : ∃ k, k = Nt.pl n at_ := ⟨_, rfl⟩
  have hkn : k < n := by rw [hk]; exact Nt.pl_lt hn0 at_
  have CP := Lib.hid (fun W => rtplace_yes rm A n c se lo at_ hn0 (by omega) ha W)
  rw [← hk] at CP hm ⊢
  have CK := hs.cap
  have HL := Lib.hid hl
  have HM := Lib.hid hm
  have i1 : (0 : Int) ≤ (k : Int) := by omega
  have i2 : (k : Int) < (n : Int) := by omega
  have i3 : ¬ ((k : Int) < 0) := by omega
  clear hk ha hm hl
  obtain ⟨j, hj⟩ : ∃ j, j = k + 1 := ⟨_, rfl⟩
  have hw1 : wrap64 ((k : Int) + 1) = (j : Int) := by rw [hj]; rw [IntWalk.wrap64_in _ ⟨by have := HL.out; omega, by have := HL.out; omega⟩]; omega
  have HJ := Lib.hid hj
  have hjn : j ≤ n := by omega
  clear hj
  obtain ⟨W, hW⟩ : ∃ W, W = ((w.alloc (.cells #[.int .i64 rm, .slice A n c, .int .i64 se, .int .i64 lo] 28)).alloc (.cells #[.int .i64 0, .slice none 0 0, .int .i64 0, .int .i64 0] 28)).alloc (.cells #[.int .i64 0, .int .i64 0, .int .i64 0, .int .i64 0, .int .i64 0, .int .i64 0] 32) := ⟨_, rfl⟩
  obtain ⟨r1, r2, r3, hb, hz⟩ := three_new hW
  have SH := Lib.hid hs
  clear hs
  go_enter Try.func17, Try.ntmps17
  go_upto_region 1 with fail
  rw [← hW]
  clear hW
  obtain ⟨g, hg⟩ : ∃ g, g = w.heap.size := ⟨_, rfl⟩
  rw [← hg] at r1 r2 r3 hz ⊢
  have X1 : Hid (NrAt W g rm (.slice A n c) se lo) := ⟨r1⟩
  have X3 : Hid (NrAt W (g + 1) 0 (.slice none 0 0) 0 0) := ⟨r2⟩
  have X2 : Hid (NtAt W (g + 1 + 1) Nt.zero) := ⟨r3⟩
  have HG := Lib.hid hg
  have B := Lib.hid hb
  have SZ := Lib.hid hz
  clear hg r1 r2 r3 hz hb
  obtain ⟨b, o, rfl, hbl, hrg⟩ := nt_range SH.out HM.out
  have HBL := Lib.hid hbl
  have RG := Lib.hid hrg
  clear hbl hrg
  have hc1 := fun W => mcut_hi b o n c k (by omega) W
  have hc2 := fun W => mcut_run (some ⟨b, o, none⟩) n c j hjn W
  have SD0 := SH.out.drop Nt.mC_len hjn (f := fun x => x.add (j * 6)) (fun b o => by rw [Addr.add_mid])
  generalize (if c = j then some (⟨b, o, none⟩ : Addr) else (some (⟨b, o, none⟩ : Addr)).map fun x => x.add (j * 6)) = AD at hc2 SD0
  generalize c - j = cd at hc2 SD0
  have SD := Lib.hid SD0
  have ST := Lib.hid (SH.out.take Nt.mC_len (k := k) (Nat.le_of_lt hkn))
  clear SD0
  go_upto_region 4 with (first
    | ((with_reducible show wpList _ _ _ ({ dst := some 10, op := .load _ _, type := _, pos := _, after := _, guard := _ } :: _) _ _); refine wpList_load_nr rfl (.tmp 2) rfl rfl X1.out ?_)
    | (go_at_call 35; (with_reducible refine (CP.out _).mono ?_); rintro e w3 ⟨rfl, hb3⟩; have Y1 := Lib.hid (X1.out.on hb3); have Y3 := Lib.hid (X3.out.on hb3); have Y2 := Lib.hid (X2.out.on hb3); have B3 := Lib.hid (B.out.trans (hb3.mono B.out.size)); have S3 := Lib.hid hb3.size; clear hb3))
  clear CP X1 X3
  clear X2
  obtain ⟨x0, x1, x2, x3, xf, xl⟩ := Y1.out.cs
  go_upto_region 5 with ((with_reducible show wpList _ _ _ ({ dst := some 21, op := .load _ _, type := _, pos := _, after := _, guard := _ } :: _) _ _); refine wpList_load_msg rfl (.tmp 20) rfl b (o + k * 6) rfl m (nrange_on RG.out (B3.out.block b HBL.out)) ?_)
  have hb4 : Below w3.heap.size w3 (w3.alloc (.cells (Nt.cs m) 32)) := (Below.refl _ _).alloc (Nat.le_refl _) _
  have ZQ0 := Lib.hid (NtAt.new w3 m)
  obtain ⟨q, hq⟩ : ∃ q, q = w3.heap.size := ⟨_, rfl⟩
  rw [← hq] at ZQ0 ⊢
  have HQ : Hid (g + 1 + 1 < q ∧ g + 1 + 1 + 1 = W.heap.size) := by show _ ∧ _; have := SZ.out; have := S3.out; omega
  clear x0 x1 x2 x3 xf xl hq
  generalize w3.alloc (.cells (Nt.cs m) 32) = w4 at *
  have U1 := Lib.hid (Y1.out.on hb4)
  have U2 := Lib.hid (Y2.out.on hb4)
  have U3 := Lib.hid (Y3.out.on hb4)
  have B4 := Lib.hid (B3.out.trans (hb4.mono B3.out.size))
  have S4 := Lib.hid (Nat.le_trans S3.out hb4.size)
  have C4 := Lib.hid hb4.size
  clear hb4 Y1 Y2 Y3 B3 S3
  have hov : OwF Nt.mC 6 32 w4 w4.heap.size (.slice none 0 0) [] := OwF.none_ _ _ _
  go_upto_region 6 with fail
  generalize Value.slice none 0 0 = v0 at hov ⊢
  have OV := Lib.hid hov
  clear hov
  obtain ⟨x0, x1, x2, x3, xf, xl⟩ := U1.out.cs
  go_upto_region 7 with (at_builtin; refine wpList_append_all Nt.mC_len Nt.mC_one Try.underlying26 msg_info rfl (by omega) rfl (.tmp 22) (.tmp 26) rfl w4.heap.size v0 [] (l.take k) rfl OV.out rfl (ST.out.on B4.out) (by simp only [List.length_take, List.length_drop, List.length_nil]; have := HL.out; have := LN.out; unfold maxLen; omega) (by simp only [List.length_take, List.length_drop, List.length_nil]; have := HL.out; have := LN.out; omega) (Nat.le_refl _) ?_; intro v6 w6 ho6 hb6 hg6 _; have O6 := Lib.hid ho6; have D6 := Lib.hid hb6; clear ho6 hb6 hg6)
  clear x0 x1 x2 x3 xf xl OV ST
  rw [List.nil_append] at O6
  have V1 := Lib.hid (U1.out.on D6.out)
  have B6 := Lib.hid (B4.out.trans (D6.out.mono B4.out.size))
  obtain ⟨x0, x1, x2, x3, xf, xl⟩ := V1.out.cs
  go_upto_region 8 with (at_builtin; refine wpList_append_all Nt.mC_len Nt.mC_one Try.underlying26 msg_info rfl (by omega) rfl (.tmp 28) (.tmp 33) rfl w4.heap.size v6 (l.take k) (l.drop j) rfl O6.out rfl (SD.out.on B6.out) (by simp only [List.length_take, List.length_drop, List.length_nil]; have := HL.out; have := LN.out; unfold maxLen; omega) (by simp only [List.length_take, List.length_drop, List.length_nil]; have := HL.out; have := LN.out; omega) D6.out.size ?_; intro v7 w7 ho7 hb7 hg7 _; obtain ⟨A9, c9, rfl⟩ := ho7.form; have O7 := Lib.hid ho7; have D7 := Lib.hid (D6.out.trans hb7); have C7 := Lib.hid hb7.size; have T1 := Lib.hid (U1.out.on (D6.out.trans hb7)); clear ho7 hb7 hg7 x0 x1 x2 x3 xf xl; obtain ⟨x0, x1, x2, x3, xf, xl⟩ := T1.out.cs)
  clear x0 x1 x2 x3 xf xl SD V1
  have EL : l.take k ++ l.drop j = Nt.cutL l k := by rw [HJ.out]; rfl
  have EN : (Nt.cutL l k).length = n - 1 := by have := Nt.cutL_len (l := l) (k := k) (by rw [LN.out]; exact hkn); rw [LN.out] at this; omega
  rw [EL] at O7
  rw [EN] at O7
  have EM : min k l.length + (l.length - j) = n - 1 := by have := LN.out; have := HJ.out; omega
  rw [EM]
  have EB := own_new O7.out
  have O7S := O7.out.sl
  have O7L := O7.out.lt
  clear EL EN EM
  have T2 := Lib.hid (U2.out.on D7.out)
  have T3 := Lib.hid (U3.out.on D7.out)
  have TQ := Lib.hid (ZQ0.out.on D7.out)
  have B7 := Lib.hid (B4.out.trans (D7.out.mono B4.out.size))
  have Z7 := Lib.hid D7.out.size
  clear U1 U2 U3 D7 D6 C7
  generalize hw5 : (w7.setCell ⟨g, 1, none⟩ (.slice A9 (n - 1) c9)).drew = w5
  have G5 : Hid (∀ b2, b2 < w7.heap.size → b2 ≠ g → w5.heap[b2]? = w7.heap[b2]?) := by rw [← hw5]; exact fun b2 _ h2 => blk_set h2
  have E5 : Hid (w5.heap.size = w7.heap.size) := by rw [← hw5]; exact (by simp [World.setCell] : ((w7.setCell ⟨g, 1, none⟩ (.slice A9 (n - 1) c9)).drew).heap.size = w7.heap.size)
  have ZA : Hid (NrAt w5 g rm (.slice A9 (n - 1) c9) se lo) := ⟨by rw [← hw5]; exact (T1.out.setV _).row⟩
  have ZB : Hid (NrAt w5 (g + 1) 0 (.slice none 0 0) 0 0) := T3.out.keep (G5.out _ T3.out.cs.lt (by omega))
  have ZM : Hid (NtAt w5 (g + 1 + 1) Nt.zero) := T2.out.keep (G5.out _ T2.out.cs.lt (by omega))
  have ZK : Hid (NtAt w5 q m) := TQ.out.keep (G5.out _ TQ.out.cs.lt (by have := HQ.out; omega))
  have B5 : Hid (Below w.heap.size w w5) := by
    rw [← hw5]
    have b1 := B7.out.grown (grown_set w7 g 1 (.slice A9 (n - 1) c9)) B7.out.size (fun b hb => by injection hb with hb; have := HG.out; omega)
    exact b1.trans ((Below.refl _ _).drew.mono b1.size)
  have N9 : Hid (∀ b2 o2, A9 = some ⟨b2, o2, none⟩ → W.heap.size ≤ b2) := fun b2 o2 hA => Nat.le_trans S4.out (EB b2 o2 hA)
  have S9 : Hid (SlF Nt.mC w5 A9 (n - 1) c9 (Nt.cutL l k)) := O7S.keep (Nat.le_of_eq E5.out.symm) (fun b2 o2 hA hp => by
    have h1 := O7L b2 (by rw [hA]; rfl)
    exact G5.out b2 h1.2 (by have := HQ.out; have := S4.out; omega))
  clear T1 T2 T3 TQ EB O7S O7L O7 G5 E5
  refine wp_region_held_drew (S := fun X => NrAt X g rm (.slice A9 (n - 1) c9) se lo ∧ NtAt X q m) (by kernel_rfl) (by rw [hw5]; exact ⟨ZA.out, ZK.out⟩) (fun hS => ?_)
  rw [hw5] at hS ⊢
  clear hw5
  refine tkYes 0 (v := nrV rm (.slice A9 (n - 1) c9) se lo) rfl (by kernel_rfl) (fun _ _ _ h => h) rfl (fun W hW => take_nr (.tmp 2) rfl rfl hW.1) hS ?_
  simp only [Act.put, List.setIfInBounds_toArray, List.set_cons_zero, List.set_cons_succ]
  refine tkYes 1 (v := Nt.val m) rfl (by kernel_rfl) (fun _ _ _ h => h) rfl (fun W hW => take_msg (.tmp 8) rfl q 0 m rfl hW.2.range) hS ?_
  simp only [Act.put, List.setIfInBounds_toArray, List.set_cons_zero, List.set_cons_succ]
  refine rnOne 2 rfl (by kernel_rfl) rfl (fun K hK => ?_)
  refine run_store_nr (.tmp 4) (.tmp 36) rfl rfl rfl rfl ZB.out ?_
  intro w6 hx6 hg6
  have ZR := Lib.hid hx6
  have G6 := Lib.hid hg6
  have ZM6 := Lib.hid (ZM.out.keep (hg6.block _ ZM.out.cs.lt (fun e => by injection e with e; omega)))
  have hS2 : NrAt w6 g rm (.slice A9 (n - 1) c9) se lo ∧ NtAt w6 q m := ⟨hS.1.keep (hg6.block g hS.1.cs.lt (fun e => by injection e with e; omega)), hS.2.keep (hg6.block q hS.2.cs.lt (fun e => by injection e with e; have := HQ.out; omega))⟩
  clear hS hx6 hg6
  have hS := hS2
  clear hS2
  refine hK.out _ _ hS (fun _ => ?_)
  clear hK K
  try simp only [Act.put, List.setIfInBounds_toArray, List.set_cons_zero, List.set_cons_succ]
  refine rnOne 3 rfl (by kernel_rfl) rfl (fun K hK => ?_)
  refine run_store_msg (.tmp 5) (.tmp 37) rfl Nt.zero m rfl rfl ZM6.out ?_
  intro w7 hx7 hg7
  have ZN := Lib.hid hx7
  have G7 := Lib.hid hg7
  have ZQ := Lib.hid (ZR.out.keep (hg7.block _ ZR.out.cs.lt (fun e => by injection e with e; omega)))
  have hS2 : NrAt w7 g rm (.slice A9 (n - 1) c9) se lo ∧ NtAt w7 q m := ⟨hS.1.keep (hg7.block g hS.1.cs.lt (fun e => by injection e with e; omega)), hS.2.keep (hg7.block q hS.2.cs.lt (fun e => by injection e with e; have := HQ.out; omega))⟩
  clear hS hx7 hg7
  have hS := hS2
  clear hS2
  refine hK.out _ _ hS (fun _ => ?_)
  clear hK K
  try simp only [Act.put, List.setIfInBounds_toArray, List.set_cons_zero, List.set_cons_succ]
  refine tkYes 4 (v := ?_) rfl (by kernel_rfl) (fun _ _ _ h => h) rfl ?_ hS ?_
  rotate_left
  · intro W hW; go_simp; (try with_reducible rfl)
  simp only [Act.put, List.setIfInBounds_toArray, List.set_cons_zero, List.set_cons_succ]
  refine wpAnyH_done (by kernel_rfl) ?_ _
  go_wp2_with fail
  have hsl : SlF Nt.mC w7 A9 (n - 1) c9 (Nt.cutL l k) := S9.out.keep (Nat.le_trans G6.out.size G7.out.size) (fun b2 o2 hA hp => by
    have h1 := N9.out b2 o2 hA
    obtain ⟨b', o', e1, e2, _⟩ := S9.out.rd hp
    rw [hA] at e1
    injection e1 with e1
    injection e1 with e1 _
    have h2 := SZ.out
    have h3 : b2 < w5.heap.size := by omega
    exact (G7.out.block b2 (Nat.lt_of_lt_of_le h3 G6.out.size) (fun e => by injection e with e; omega)).trans (G6.out.block b2 h3 (fun e => by injection e with e; omega)))
  have b6 : Below w.heap.size w w6 := B5.out.grown G6.out B5.out.size (fun b hb => by injection hb with hb; have := HG.out; omega)
  have b7 : Below w.heap.size w w7 := b6.grown G7.out b6.size (fun b hb => by injection hb with hb; have := HG.out; omega)
  exact bodyPost_ret (nr_results3 Try.results17 _ _ rfl rfl ZQ.out ZN.out) rfl ⟨A9, c9, rfl, hsl, .inr (fun b2 o2 hA => by have := N9.out b2 o2 hA; have := SZ.out; have := HG.out; omega), b7⟩
set_option maxHeartbeats 3200000 in
theorem rtdrop_none (rm : Int) (A : Option Addr) (n c : Nat) (l : List Nt.M) (se lo at_ : Int) (w : World) (hs : SlF Nt.mC w A n c l) (hn0 : n = 0) :
    Calls Try.prog 19 #[nrV rm (.slice A n c) se lo, .int .i64 at_] w (RPost A rm n l se lo (fun v => .tuple #[v, .bool false]) w) := by
  have CT := Lib.hid (fun W (hs : SlF Nt.mC W A n c l) => rttake_none rm A n c l se lo at_ W hs hn0)
  obtain ⟨n2, hn2⟩ : ∃ n2, n2 = n := ⟨_, rfl⟩
  have CT : Hid (∀ W (hs : SlF Nt.mC W A n c l), Calls Try.prog 17 #[nrV rm (.slice A n c) se lo, .int .i64 at_] W (RPost A rm n2 l se lo (fun v => .tuple #[v, Nt.val Nt.zero, .bool false]) W)) := by rw [hn2]; exact CT.out
  rw [show RPost A rm n l = RPost A rm n2 l by rw [hn2]]
  clear hn2 hn0
  obtain ⟨W, hW⟩ : ∃ W, W = (w.alloc (.cells #[.int .i64 rm, .slice A n c, .int .i64 se, .int .i64 lo] 28)).alloc (.cells #[.int .i64 0, .slice none 0 0, .int .i64 0, .int .i64 0] 28) := ⟨_, rfl⟩
  obtain ⟨r1, r2, hb, hz⟩ := two_new hW
  have SH := Lib.hid hs
  clear hs
  go_enter Try.func19, Try.ntmps19
  go_upto_region 1 with fail
  rw [← hW]
  clear hW
  obtain ⟨g, hg⟩ : ∃ g, g = w.heap.size := ⟨_, rfl⟩
  rw [← hg] at r1 r2 hz ⊢
  have X1 : Hid (NrAt W g rm (.slice A n c) se lo) := ⟨r1⟩
  have X3 : Hid (NrAt W (g + 1) 0 (.slice none 0 0) 0 0) := ⟨r2⟩
  have HG := Lib.hid hg
  have B := Lib.hid hb
  have SZ := Lib.hid hz
  clear hg r1 r2 hz hb
  go_upto_region 2 with (first
    | ((with_reducible show wpList _ _ _ ({ dst := some 10, op := .load _ _, type := _, pos := _, after := _, guard := _ } :: _) _ _); refine wpList_load_nr rfl (.tmp 2) rfl rfl X1.out ?_)
    | (go_at_call 17; (with_reducible refine (CT.out _ (SH.out.on B.out)).mono ?_); rintro e w3 ⟨A3, c3, rfl, hs3, hn3, hb3⟩; have S3 := Lib.hid hs3; have N3 := Lib.hid hn3; have Y3 := Lib.hid (X3.out.on hb3); have B3 := Lib.hid (B.out.trans (hb3.mono B.out.size)); have E3 := Lib.hid hb3.size; clear hs3 hn3 hb3)
    | (((with_reducible show wpList _ _ _ ({ dst := none, op := .store _ _ _, type := _, pos := _, after := _, guard := _ } :: _) _ _); refine wpList_store_nr rfl (.tmp 6) (.tmp 13) rfl rfl rfl rfl ⟨(two_new rfl).1⟩ ?_); intro w5 hx5 hg5; have P5 := Lib.hid hx5; have G5 := Lib.hid hg5; clear hx5 hg5)
    | (((with_reducible show wpList _ _ _ ({ dst := none, op := .store _ _ _, type := _, pos := _, after := _, guard := _ } :: _) _ _); refine wpList_store_msg rfl (.tmp 7) (.tmp 14) rfl Nt.zero Nt.zero rfl rfl ⟨(G5.out.block _ (by simp) (fun e => by injection e with e; omega)).trans (two_new rfl).2.1⟩ ?_); intro w6 hx6 hg6; have P6 := Lib.hid (P5.out.keep (hg6.block _ P5.out.cs.lt (fun e => by injection e with e; omega))); have G6 := Lib.hid hg6; clear hx6 hg6))
  clear X1 X3
  have D6 : Hid (Below w3.heap.size w3 w6) := by
    have h1 := (two_new (w := w3) rfl).2.2.1.grown G5.out (two_new (w := w3) rfl).2.2.1.size (fun b hb => by injection hb with hb; omega)
    exact h1.grown G6.out h1.size (fun b hb => by injection hb with hb; omega)
  have Y6 := Lib.hid (Y3.out.on D6.out)
  have B6 := Lib.hid (B3.out.trans (D6.out.mono B3.out.size))
  have HQ : Hid (g + 1 < w3.heap.size) := Y3.out.cs.lt
  have S6 := Lib.hid (S3.out.on D6.out)
  have RL : Hid (∀ b o, A3 = some ⟨b, o, none⟩ → 0 < l.length → b < w3.heap.size ∧ b ≠ g + 1) := fun b o hA hp => by
    obtain ⟨b', o', e1, e2, _⟩ := S3.out.rd hp
    rw [hA] at e1
    injection e1 with e1
    injection e1 with e1 _
    subst e1
    refine ⟨e2, fun e => ?_⟩
    rcases N3.out with h | h
    · subst h
      obtain ⟨b', o', e3, e4, _⟩ : ∃ b' o', A3 = some ⟨b', o', none⟩ ∧ b' < w.heap.size ∧ True := by
        have hp2 : 0 < l.length := by rcases Nat.eq_zero_or_pos l.length with h0 | h0
                                      · rw [List.eq_nil_of_length_eq_zero h0] at hp; simp [Nt.cutL] at hp
                                      · exact h0
        obtain ⟨b', o', h1, h2, _⟩ := SH.out.rd hp2
        exact ⟨b', o', h1, h2, trivial⟩
      rw [hA] at e3
      injection e3 with e3
      injection e3 with e3 _
      have := HG.out
      omega
    · have := h b o hA
      have := SZ.out
      omega
  clear Y3 G5 G6 P5 D6 S3
  generalize w3.heap.size = q at *
  go_wp2_with (first
    | ((with_reducible show wpList _ _ _ ({ dst := some 21, op := .load _ _, type := _, pos := _, after := _, guard := _ } :: _) _ _); refine wpList_load_nr rfl (.tmp 6) rfl rfl P6.out ?_)
    | (((with_reducible show wpList _ _ _ ({ dst := none, op := .store _ _ _, type := _, pos := _, after := _, guard := _ } :: _) _ _); refine wpList_store_nr rfl (.tmp 4) (.tmp 21) rfl rfl rfl rfl Y6.out ?_); intro w7 hx7 hg7; have ZR := Lib.hid hx7; have G7 := Lib.hid hg7; clear hx7 hg7))
  have hsl : SlF Nt.mC w7 A3 n2 c3 (l) := S6.out.keep G7.out.size (fun b o hA hp => by
    obtain ⟨b', o', e1, e2, _⟩ := S6.out.rd hp
    rw [hA] at e1
    injection e1 with e1
    injection e1 with e1 _
    exact G7.out.block b (by omega) (fun e => by injection e with e; exact (RL.out b o hA hp).2 e))
  have b7 : Below w.heap.size w w7 := B6.out.grown G7.out B6.out.size (fun b hb => by injection hb with hb; have := HG.out; omega)
  exact bodyPost_ret (nr_results2 Try.results19 _ rfl ZR.out) rfl ⟨A3, c3, rfl, hsl, N3.out.imp id (fun h => h.from_ B.out.size), b7⟩
set_option maxHeartbeats 3200000 in
theorem rtdrop_yes (rm : Int) (A : Option Addr) (n c : Nat) (l : List Nt.M) (se lo at_ : Int) (w : World) (hs : SlF Nt.mC w A n c l) (hn0 : 0 < n) (hl : n ≤ 1000) (ha : Nt.i64 at_) {m : Nt.M} (hm : l[Nt.pl n at_]? = some m) (hlo : 0 ≤ lo ∧ lo ≤ 1000000) :
    Calls Try.prog 19 #[nrV rm (.slice A n c) se lo, .int .i64 at_] w (RPost A rm (n - 1) (Nt.cutL l (Nt.pl n at_)) se (lo + 1) (fun v => .tuple #[v, .bool true]) w) := by
  have CT := Lib.hid (fun W (hs : SlF Nt.mC W A n c l) => rttake_yes rm A n c l se lo at_ W hs hn0 hl ha hm)
  have hl1 : wrap64 (lo + 1) = lo + 1 := IntWalk.wrap64_in _ ⟨by omega, by omega⟩
  clear hlo hm ha hl hn0
  generalize Nt.pl n at_ = k at *
  obtain ⟨n2, hn2⟩ : ∃ n2, n2 = n - 1 := ⟨_, rfl⟩
  rw [← hn2] at CT ⊢
  clear hn2
  obtain ⟨W, hW⟩ : ∃ W, W = (w.alloc (.cells #[.int .i64 rm, .slice A n c, .int .i64 se, .int .i64 lo] 28)).alloc (.cells #[.int .i64 0, .slice none 0 0, .int .i64 0, .int .i64 0] 28) := ⟨_, rfl⟩
  obtain ⟨r1, r2, hb, hz⟩ := two_new hW
  have SH := Lib.hid hs
  clear hs
  go_enter Try.func19, Try.ntmps19
  go_upto_region 1 with fail
  rw [← hW]
  clear hW
  obtain ⟨g, hg⟩ : ∃ g, g = w.heap.size := ⟨_, rfl⟩
  rw [← hg] at r1 r2 hz ⊢
  have X1 : Hid (NrAt W g rm (.slice A n c) se lo) := ⟨r1⟩
  have X3 : Hid (NrAt W (g + 1) 0 (.slice none 0 0) 0 0) := ⟨r2⟩
  have HG := Lib.hid hg
  have B := Lib.hid hb
  have SZ := Lib.hid hz
  clear hg r1 r2 hz hb
  go_upto_region 2 with (first
    | ((with_reducible show wpList _ _ _ ({ dst := some 10, op := .load _ _, type := _, pos := _, after := _, guard := _ } :: _) _ _); refine wpList_load_nr rfl (.tmp 2) rfl rfl X1.out ?_)
    | (go_at_call 17; (with_reducible refine (CT.out _ (SH.out.on B.out)).mono ?_); rintro e w3 ⟨A3, c3, rfl, hs3, hn3, hb3⟩; have S3 := Lib.hid hs3; have N3 := Lib.hid hn3; have Y3 := Lib.hid (X3.out.on hb3); have B3 := Lib.hid (B.out.trans (hb3.mono B.out.size)); have E3 := Lib.hid hb3.size; clear hs3 hn3 hb3)
    | (((with_reducible show wpList _ _ _ ({ dst := none, op := .store _ _ _, type := _, pos := _, after := _, guard := _ } :: _) _ _); refine wpList_store_nr rfl (.tmp 6) (.tmp 13) rfl rfl rfl rfl ⟨(two_new rfl).1⟩ ?_); intro w5 hx5 hg5; have P5 := Lib.hid hx5; have G5 := Lib.hid hg5; clear hx5 hg5)
    | (((with_reducible show wpList _ _ _ ({ dst := none, op := .store _ _ _, type := _, pos := _, after := _, guard := _ } :: _) _ _); refine wpList_store_msg rfl (.tmp 7) (.tmp 14) rfl Nt.zero m rfl rfl ⟨(G5.out.block _ (by simp) (fun e => by injection e with e; omega)).trans (two_new rfl).2.1⟩ ?_); intro w6 hx6 hg6; have P6 := Lib.hid (P5.out.keep (hg6.block _ P5.out.cs.lt (fun e => by injection e with e; omega))); have G6 := Lib.hid hg6; clear hx6 hg6))
  clear X1 X3
  have D6 : Hid (Below w3.heap.size w3 w6) := by
    have h1 := (two_new (w := w3) rfl).2.2.1.grown G5.out (two_new (w := w3) rfl).2.2.1.size (fun b hb => by injection hb with hb; omega)
    exact h1.grown G6.out h1.size (fun b hb => by injection hb with hb; omega)
  have Y6 := Lib.hid (Y3.out.on D6.out)
  have B6 := Lib.hid (B3.out.trans (D6.out.mono B3.out.size))
  have HQ : Hid (g + 1 < w3.heap.size) := Y3.out.cs.lt
  have S6 := Lib.hid (S3.out.on D6.out)
  have RL : Hid (∀ b o, A3 = some ⟨b, o, none⟩ → 0 < (Nt.cutL l k).length → b < w3.heap.size ∧ b ≠ g + 1) := fun b o hA hp => by
    obtain ⟨b', o', e1, e2, _⟩ := S3.out.rd hp
    rw [hA] at e1
    injection e1 with e1
    injection e1 with e1 _
    subst e1
    refine ⟨e2, fun e => ?_⟩
    rcases N3.out with h | h
    · subst h
      obtain ⟨b', o', e3, e4, _⟩ : ∃ b' o', A3 = some ⟨b', o', none⟩ ∧ b' < w.heap.size ∧ True := by
        have hp2 : 0 < l.length := by rcases Nat.eq_zero_or_pos l.length with h0 | h0
                                      · rw [List.eq_nil_of_length_eq_zero h0] at hp; simp [Nt.cutL] at hp
                                      · exact h0
        obtain ⟨b', o', h1, h2, _⟩ := SH.out.rd hp2
        exact ⟨b', o', h1, h2, trivial⟩
      rw [hA] at e3
      injection e3 with e3
      injection e3 with e3 _
      have := HG.out
      omega
    · have := h b o hA
      have := SZ.out
      omega
  clear Y3 G5 G6 P5 D6 S3
  generalize w3.heap.size = q at *
  obtain ⟨x0, x1, x2, x3, xf, xl⟩ := P6.out.cs
  go_upto_region 4 with fail
  clear x0 x1 x2 x3 xf xl
  obtain ⟨w8, hw8⟩ : ∃ w8, w8 = w6.setCell ⟨q, 3, none⟩ (.int .i64 (lo + 1)) := ⟨_, rfl⟩
  have P6 : Hid (NrAt w8 q rm (.slice A3 n2 c3) se (lo + 1)) := by rw [hw8]; exact P6.out.setL _
  have S6 : Hid (SlF Nt.mC w8 A3 n2 c3 ((Nt.cutL l k))) := S6.out.keep (by rw [hw8]; exact (grown_set w6 q 3 _).size) (fun b o hA hp => by rw [hw8]; exact blk_set (Nat.ne_of_lt (RL.out b o hA hp).1))
  have Y6 : Hid (NrAt w8 (g + 1) 0 (.slice none 0 0) 0 0) := Y6.out.keep (by rw [hw8]; exact blk_set (by have := HQ.out; omega))
  have B6 : Hid (Below w.heap.size w w8) := by rw [hw8]; exact B6.out.grown (grown_set w6 q 3 _) B6.out.size (fun b hb => by injection hb with hb; have := HG.out; have := HQ.out; omega)
  rw [← hw8]
  clear hw8
  go_wp2_with (first
    | ((with_reducible show wpList _ _ _ ({ dst := some 21, op := .load _ _, type := _, pos := _, after := _, guard := _ } :: _) _ _); refine wpList_load_nr rfl (.tmp 6) rfl rfl P6.out ?_)
    | (((with_reducible show wpList _ _ _ ({ dst := none, op := .store _ _ _, type := _, pos := _, after := _, guard := _ } :: _) _ _); refine wpList_store_nr rfl (.tmp 4) (.tmp 21) rfl rfl rfl rfl Y6.out ?_); intro w7 hx7 hg7; have ZR := Lib.hid hx7; have G7 := Lib.hid hg7; clear hx7 hg7))
  have hsl : SlF Nt.mC w7 A3 n2 c3 ((Nt.cutL l k)) := S6.out.keep G7.out.size (fun b o hA hp => by
    obtain ⟨b', o', e1, e2, _⟩ := S6.out.rd hp
    rw [hA] at e1
    injection e1 with e1
    injection e1 with e1 _
    exact G7.out.block b (by omega) (fun e => by injection e with e; exact (RL.out b o hA hp).2 e))
  have b7 : Below w.heap.size w w7 := B6.out.grown G7.out B6.out.size (fun b hb => by injection hb with hb; have := HG.out; omega)
  exact bodyPost_ret (nr_results2 Try.results19 _ rfl ZR.out) rfl ⟨A3, c3, rfl, hsl, N3.out.imp id (fun h => h.from_ B.out.size), b7⟩
end Go.Proofs.Ytmhhjipdbfepiaa
