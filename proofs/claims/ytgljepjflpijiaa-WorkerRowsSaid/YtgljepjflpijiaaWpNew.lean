/-
  Package worker: New, Report. No condition.
-/
import Derived.Test.YtgljepjflpijiaaWpAp
namespace Go.Proofs.Ytgljepjflpijiaa
open Go.RowKit Go.Deep Go.Maps Go.WideMaps
set_option linter.unusedSimpArgs false
set_option linter.unusedVariables false
set_option maxRecDepth 100000

theorem wpnew_none (W : World) (n many : Int) (h : ¬ Wk.mayNew n many) : Calls Try.prog 10 #[.int .i64 n, .int .i64 many] W (WkAns (.tuple #[.pointer none, .int .i64 1]) W) := by
  have B := Lib.hid (Below.refl W.heap.size W)
  unfold Wk.mayNew at h
  by_cases h1 : 16 < many
  · clear h
    go_enter Try.func10, Try.ntmps10
    go_wp2_with fail
    exact bodyPost_ret (v := .tuple #[.pointer none, .int .i64 1]) (by simp [results, Try.results10, go_sem]) rfl ⟨rfl, B.out⟩
  · by_cases h2 : n < 0
    · clear h
      go_enter Try.func10, Try.ntmps10
      go_wp2_with fail
      exact bodyPost_ret (v := .tuple #[.pointer none, .int .i64 1]) (by simp [results, Try.results10, go_sem]) rfl ⟨rfl, B.out⟩
    · have h3 : many ≤ n := by omega
      clear h
      go_enter Try.func10, Try.ntmps10
      go_wp2_with fail
      exact bodyPost_ret (v := .tuple #[.pointer none, .int .i64 1]) (by simp [results, Try.results10, go_sem]) rfl ⟨rfl, B.out⟩
theorem wpList_mapPut {w : World} {ops : Array Oper} {rest : List Oper} {o : Oper} {a : Act} {Q : Exit → Act → World → Prop} {b n : Nat} {f : Int → Option Su.S} (h : SM.At w b f n) (hg : o.guard = none) (m x v : Operand) (hop : o.op = Op.mapUpdate 63 m x v)
    (hm : a.eval m = .map (some b)) (hn : n < maxLen) (k : Int) (u : Su.S) (hk : Nt.i64 k) (hx : a.eval x = .int .i64 k) (hv : a.eval v = suV u)
    (hK : ∀ w', SM.At w' b (MapW.set f k (some u)) (if (f k).isSome then n else n + 1) → w.mapTurned w' b → wpList Try.prog ops Q rest (a.put o.dst undef) w') : wpList Try.prog ops Q (o :: rest) a w := by
  refine wpList_plain hg fun K' hK' => ?_
  obtain ⟨w', hrun, h2, h3⟩ := MapW.At.put (M := SM) h hn k u (wf_i64 hk)
  have hrun2 : (Instr.mapUpdate 63 (.map (some b)) (.int .i64 k) (suV u)).run Try.prog w = .ok () w' := hrun
  unfold Oper.wp
  simp [execOp, hop, hm, hx, hv, hrun2, Result.andThen]
  exact hK' _ _ (hK w' h2 h3)
set_option maxHeartbeats 3200000 in
theorem wpnew_make (W : World) (n many : Int) (h : Wk.mayNew n many) : Calls Try.prog 10 #[.int .i64 n, .int .i64 many] W (fun e w' => ∃ q m, e = .returned (.tuple #[wkp q, .int .i64 0]) ∧ WpIs w' q m (Wk.new n many) ∧ W.heap.size ≤ q ∧ W.heap.size ≤ m ∧ Below W.heap.size W w') := by
  have HM := Lib.hid h
  have hmm := @run_makeMap Try.prog
  have B1 := Lib.hid ((Below.refl W.heap.size W).alloc (Nat.le_refl _) (.map #[] 0))
  have M1 := Lib.hid (MapW.At.made (M := SM) W)
  obtain ⟨h1, h2, h3, h4⟩ := h
  obtain ⟨m, hm⟩ : ∃ m, m = W.heap.size := ⟨_, rfl⟩
  have GM : Hid (W.heap.size ≤ m) := by show _ ≤ _; omega
  rw [← hm] at M1
  go_enter Try.func10, Try.ntmps10
  go_upto_region 4 with fail
  rw [← hm]
  clear hm hmm
  generalize W.alloc (.map #[] 0) = W1 at *
  go_wp2_with fail
  go_loopw [7] (fun i wr => ∃ (u : Int) (j : Nat), i = .int .i64 u ∧ u % many = n ∧ 0 ≤ u ∧ u < 32 ∧ (j : Int) ≤ u ∧ j ≤ 16 ∧ SM.At wr m (Wk.below n many u) j ∧ Below W.heap.size W wr) (fun i wr => (32 - (intOf i)).toNat)
  case atStart => exact ⟨n, 0, rfl, Int.emod_eq_of_lt h3 h4, h3, by omega, by omega, by omega, by rw [← Wk.below_start HM.out]; exact M1.out, B1.out⟩
  case round =>
    obtain ⟨u, j, rfl, hu, h0, h32, hj, hj16, hat, hb⟩ := hrel
    have AT := Lib.hid hat
    have B := Lib.hid hb
    have HU := Lib.hid hu
    have HJ := Lib.hid hj
    have HJ2 := Lib.hid hj16
    clear hat hb hu hj hj16
    by_cases hlt : u < 16
    · have hw : wrap64 (u + many) = u + many := IntWalk.wrap64_in _ ⟨by omega, by omega⟩
      go_wp2_with ((with_reducible show wpList _ _ _ ({ dst := none, op := .mapUpdate _ _ _ _, type := _, pos := _, after := _, guard := _ } :: _) _ _); refine wpList_mapPut AT.out rfl _ _ _ rfl rfl (by have := HJ2.out; unfold maxLen; omega) u Wk.z4 (by unfold Nt.i64; omega) rfl rfl ?_; intro w9 hat9 ht9; have A9 := Lib.hid hat9; have B9 := Lib.hid (B.out.grown ht9.grown B.out.size (fun k hk => by injection hk with hk; have := GM.out; omega)); clear hat9 ht9)
      rw [Wk.below_none, Wk.below_put HM.out HU.out h0 hlt] at A9
      exact ⟨⟨u + many, j + 1, rfl, by rw [Int.add_emod_right]; exact HU.out, by omega, by omega, by have := HJ.out; omega, by have := HJ.out; omega, A9.out, B9.out⟩, by simp [intOf]; omega⟩
    · have E := Wk.below_end n many (b := u) (by omega)
      rw [E] at AT
      clear E
      go_wp2_with fail
      have hb2 := (Below.refl wr.heap.size wr).alloc (Nat.le_refl _) (.cells #[.map (some m), .int .i64 0] 65)
      refine bodyPost_ret (v := .tuple #[wkp wr.heap.size, .int .i64 0]) (by simp [results, Try.results10, go_sem]) rfl ?_
      exact ⟨_, rfl, m, ⟨heap_alloc_new wr _, ⟨j, HJ2.out, MapW.At.on AT.out hb2⟩, Wk.new_ok HM.out, Wk.new_clean n many⟩, B.out.size, GM.out, B.out.trans (hb2.mono B.out.size)⟩
set_option maxHeartbeats 3200000 in
theorem wpreport_any (W : World) (q m : Nat) (s : Wk.W) (u : Int) (h : WpIs W q m s) (hu : Nt.i64 u) : Calls Try.prog 22 #[wkp q, .int .i64 u] W (WkAns (.tuple #[Nt.val (Wk.report s u), .bool (decide (Wk.own s u))]) W) := by
  have CS := Lib.hid (fun W2 h2 => wpslot_any W2 q m s u h2 hu)
  have H := Lib.hid h
  obtain ⟨W1, hW⟩ : ∃ W1, W1 = W.alloc (.cells #[.int .i64 0, .int .i64 0, .int .i64 0, .int .i64 0, .int .i64 0, .int .i64 0] 38) := ⟨_, rfl⟩
  have b1 := (Below.refl W.heap.size W).alloc (Nat.le_refl _) (.cells #[.int .i64 0, .int .i64 0, .int .i64 0, .int .i64 0, .int .i64 0, .int .i64 0] 38)
  have n1 := NtAt.new W Nt.zero
  unfold Nt.cs Nt.zero at n1
  simp only at n1
  rw [← hW] at b1 n1
  obtain ⟨g, hg⟩ : ∃ g, g = W.heap.size := ⟨_, rfl⟩
  rw [← hg] at n1
  have HG := Lib.hid hg
  have HW := Lib.hid hW
  have B1 := Lib.hid b1
  have N1 := Lib.hid n1
  have GB : Hid (W.heap.size ≤ g) := by show _ ≤ _; omega
  clear h hu hW b1 n1 hg
  by_cases ho : Wk.own s u
  · have ES : Wk.slotOf s u = s.l u.toNat := if_pos ho
    have ER : Hid (Wk.report s u = ⟨2, s.seen, (s.l u.toNat).sq, u, (s.l u.toNat).v, (s.l u.toNat).st⟩) := if_pos ho
    rw [ES, decide_eq_true ho] at CS
    rw [decide_eq_true ho, ER.out]
    obtain ⟨x, hx⟩ : ∃ x, x = s.l u.toNat := ⟨_, rfl⟩
    rw [← hx] at CS ⊢
    clear ho ES ER hx
    unfold suV suC at CS
    go_enter Try.func22, Try.ntmps22
    go_upto_region 1 with fail
    rw [← HW.out, ← HG.out]
    go_upto_region 4 with (go_at_call 16; (with_reducible refine (CS.out _ (H.out.on B1.out)).mono ?_); rintro e w2 ⟨rfl, hb⟩; have N2 := Lib.hid (N1.out.on hb); have B2 := Lib.hid (B1.out.trans (hb.mono B1.out.size)); clear hb)
    have hb := (Below.refl w2.heap.size w2).alloc (Nat.le_refl _) (.cells #[.int .i64 x.st, .int .i64 x.v, .int .i64 x.wa, .int .i64 x.sq] 46)
    have X3 := Lib.hid (SuAt.new 46 w2 x)
    have N3 := Lib.hid (N2.out.on hb)
    have B3 := Lib.hid (B2.out.trans (hb.mono B2.out.size))
    have GL := Lib.hid N2.out.cs.lt
    obtain ⟨k, hk⟩ : ∃ k, k = w2.heap.size := ⟨_, rfl⟩
    have GK : Hid (g ≠ k) := by have h7 := GL.out; show _ ≠ _; omega
    rw [← hk] at X3 ⊢
    unfold suC at X3
    clear hb hk N2 B2 N1 B1 HW GL
    generalize w2.alloc (.cells #[.int .i64 x.st, .int .i64 x.v, .int .i64 x.wa, .int .i64 x.sq] 46) = W3 at *
    have H3 := Lib.hid (H.out.on B3.out)
    obtain ⟨c0, c1, f1, hq⟩ := H3.out.cells
    obtain ⟨d0, d1, d2, d3, dl⟩ := X3.out.cells
    obtain ⟨y0, y1, y2, y3, y4, y5, yl⟩ := N3.out.cs
    have fz : ∀ i, W3.frozen? ⟨g, i, none⟩ = false := fun i => frozen_of_row _ _ _ _ _ N3.out.row
    go_region
    go_wp2_with fail
    have E := nt_put N3.out B3.out GB.out ⟨2, s.seen, x.sq, u, x.v, x.st⟩
    exact bodyPost_ret (v := .tuple #[Nt.val ⟨2, s.seen, x.sq, u, x.v, x.st⟩, .bool true]) (msg_results2 Try.results22 _ _ rfl (E.1.on (Below.refl _ _).drew)) rfl ⟨rfl, E.2.drew⟩
  · have ES : Wk.slotOf s u = Wk.z4 := if_neg ho
    have ER : Wk.report s u = Nt.zero := if_neg ho
    rw [ES, decide_eq_false ho] at CS
    rw [decide_eq_false ho, ER]
    clear ho ES ER
    unfold Wk.z4 suV suC at CS
    go_enter Try.func22, Try.ntmps22
    go_upto_region 1 with fail
    rw [← HW.out, ← HG.out]
    go_upto_region 3 with (go_at_call 16; (with_reducible refine (CS.out _ (H.out.on B1.out)).mono ?_); rintro e w2 ⟨rfl, hb⟩; have N2 := Lib.hid (N1.out.on hb); have B2 := Lib.hid (B1.out.trans (hb.mono B1.out.size)); clear hb)
    have N3 := Lib.hid (N2.out.on ((Below.refl w2.heap.size w2).alloc (Nat.le_refl _) (.cells #[.int .i64 0, .int .i64 0, .int .i64 0, .int .i64 0] 46)))
    have B3 := Lib.hid (B2.out.alloc B2.out.size (.cells #[.int .i64 0, .int .i64 0, .int .i64 0, .int .i64 0] 46))
    generalize w2.alloc (.cells #[.int .i64 0, .int .i64 0, .int .i64 0, .int .i64 0] 46) = W3 at *
    obtain ⟨y0, y1, y2, y3, y4, y5, yl⟩ := N3.out.cs
    have fz : ∀ i, W3.frozen? ⟨g, i, none⟩ = false := fun i => frozen_of_row _ _ _ _ _ N3.out.row
    go_wp2_with fail
    have E := nt_put N3.out B3.out GB.out Nt.zero
    exact bodyPost_ret (v := .tuple #[Nt.val Nt.zero, .bool false]) (msg_results2 Try.results22 _ _ rfl E.1) rfl ⟨rfl, E.2⟩
end Go.Proofs.Ytgljepjflpijiaa
