/-
  Layer 14's steps: in memory; early, kind, msg. No condition.
-/
import Derived.Test.YtmhhjipdbfepiaaNtArg
import Derived.Test.YtmhhjipdbfepiaaNtR2
namespace Go.Proofs.Ytmhhjipdbfepiaa
open Go.RowKit Go.Deep
set_option maxRecDepth 100000
set_option linter.unusedSimpArgs false
set_option linter.unusedVariables false

abbrev npCs (p : Np) : Array Value := #[.int .i64 p.kind, .int .i64 p.n, .int .i64 p.m.k, .int .i64 p.m.e, .int .i64 p.m.s, .int .i64 p.m.u, .int .i64 p.m.v, .int .i64 p.m.t]
abbrev npV (p : Np) : Value := .agg (npCs p)
structure NpAt (w : World) (g : Nat) (p : Np) : Prop where
  row : w.heap[g]? = some (.cells (npCs p) 34 (0, 0))
theorem NpAt.new (w : World) (p : Np) : NpAt (w.alloc (.cells (npCs p) 34)) w.heap.size p := ⟨heap_alloc_new w _⟩
theorem NpAt.on {w w' : World} {g : Nat} {p : Np} (h : NpAt w g p) (hb : Below w.heap.size w w') : NpAt w' g p := ⟨(hb.block g (Array.getElem?_eq_some_iff.1 h.row).1).trans h.row⟩
theorem NpAt.range {w : World} {g : Nat} {p : Np} (h : NpAt w g p) : w.rangeAt g 0 (npC p) := fun j v hv => by
  rw [Nat.zero_add, cell_of_row w g j _ _ _ h.row, ← hv]
  simp [npC, Nt.mC]
theorem NpAt.msg {w : World} {g : Nat} {p : Np} (h : NpAt w g p) : w.rangeAt g 2 (Nt.mC p.m) := fun j v hv => by
  rw [cell_of_row w g _ _ _ _ h.row, ← hv]
  rw [Nat.add_comm]
  simp [Nt.mC]
theorem NpAt.cs {w : World} {g : Nat} {p : Np} (h : NpAt w g p) : w.cell? ⟨g, 0, none⟩ = some (.int .i64 p.kind) ∧ w.cell? ⟨g, 1, none⟩ = some (.int .i64 p.n) ∧ g < w.heap.size :=
  ⟨by rw [cell_of_row w g 0 _ _ _ h.row]; rfl, by rw [cell_of_row w g 1 _ _ _ h.row]; rfl, (Array.getElem?_eq_some_iff.1 h.row).1⟩
theorem np_fields : Try.prog.underlying 34 = some (.struct (Try.prog.fieldsOf 34)) := by kernel_rfl
theorem np_size (p : Np) : (Try.prog.info? 34).map (·.size) = some (npC p).length := by kernel_rfl
section
variable {w : World} {ops : Array Oper} {rest : List Oper} {op : Oper} {a : Act} {Q : Exit → Act → World → Prop}
theorem wpList_load_np (hgd : op.guard = none) (x : Operand) (ho : op.op = .load 34 x) (b o : Nat) (hx : a.eval x = .pointer (some ⟨b, o, none⟩)) (p : Np) (hc : w.rangeAt b o (npC p))
    (h : wpList Try.prog ops Q rest (a.put op.dst (npV p)) w) : wpList Try.prog ops Q (op :: rest) a w :=
  wpList_load_mid hgd 34 x ho b o hx (npC p) _ hc np_fields rfl (np_size p) h
end
theorem np_range {w : World} {A : Option Addr} {n c : Nat} {ts : List Np} (h : SlF npC w A n c ts) {q : Nat} {t : Np} (hq : ts[q]? = some t) : ∃ b o, A = some ⟨b, o, none⟩ ∧ b < w.heap.size ∧ w.rangeAt b (o + q * 8) (npC t) := by
  obtain ⟨b, o, h1, h2, h3⟩ := h.at_ npC_len hq
  exact ⟨b, o, h1, h2, fun i u hi => h3 i u hi⟩
/-- A step's kind, its message. -/
def npK (p : Np) : Int := p.kind % 18446744073709551616 % 5
def npM (p : Np) : Nt.M := if p.n.tmod 7 = 0 then p.m else Nt.good p.m
theorem npM_in {p : Np} (h : NpIn p) : Nt.In (npM p) := by
  unfold npM
  split
  · exact h.m
  · exact Nt.good_in _
theorem npK_cases (p : Np) : npK p = 0 ∨ npK p = 1 ∨ npK p = 2 ∨ npK p = 3 ∨ npK p = 4 := by
  unfold npK
  have h1 := Int.emod_nonneg (p.kind % 18446744073709551616) (b := 5) (by omega)
  have h2 := Int.emod_lt_of_pos (p.kind % 18446744073709551616) (b := 5) (by omega)
  omega
theorem npkind_any (p : Np) (w : World) : Calls Try.prog 13 #[npV p] w (NPos w (.int .i64 (npK p))) := by
  have B1 := Lib.hid ((Below.refl w.heap.size w).alloc (Nat.le_refl _) (.cells (npCs p) 34))
  have E : Hid (wrap64 ((IntKind.u64.wrap p.kind).tmod 5) = npK p) := by
    show _ = _
    rw [IntKind.wrap_u64, Int.tmod_eq_emod_of_nonneg (Int.emod_nonneg _ (by omega))]
    have := npK_cases p
    unfold npK at *
    exact IntWalk.wrap64_in _ ⟨by omega, by omega⟩
  obtain ⟨kind, n, ⟨k, e, s, u, v, t⟩⟩ := p
  simp only at *
  go_enter Try.func13, Try.ntmps13
  go_wp2_with fail
  go_ret
  exact ⟨ret_int E.out, B1.out⟩
set_option maxHeartbeats 1600000 in
theorem npmsg_any (p : Np) (w : World) : Calls Try.prog 15 #[npV p] w (NPos w (Nt.val (npM p))) := by
  obtain ⟨W, hW⟩ : ∃ W, W = (w.alloc (.cells (npCs p) 34)).alloc (.cells (Nt.cs Nt.zero) 32) := ⟨_, rfl⟩
  obtain ⟨r1, r2, hb, hz⟩ := two_new hW
  have X1 : Hid (NpAt W w.heap.size p) := ⟨r1⟩
  have X2 : Hid (NtAt W (w.heap.size + 1) Nt.zero) := ⟨r2⟩
  have B := Lib.hid hb
  have hfold : (w.alloc (.cells (npCs p) 34)).alloc (.cells #[.int .i64 0, .int .i64 0, .int .i64 0, .int .i64 0, .int .i64 0, .int .i64 0] 32) = W := hW.symm
  have EM : Hid (npM p = if p.n.tmod 7 = 0 then p.m else Nt.good p.m) := rfl
  clear hW r1 r2 hb hz
  by_cases h7 : p.n.tmod 7 = 0
  · rw [if_pos h7] at EM
    rw [EM.out]
    go_enter Try.func15, Try.ntmps15
    go_upto_region 1 with fail
    try rw [hfold]
    clear hfold EM
    obtain ⟨g, hg⟩ : ∃ g, g = w.heap.size := ⟨_, rfl⟩
    rw [← hg] at X1 X2 ⊢
    have HG := Lib.hid hg
    clear hg
    obtain ⟨x0, x1, xl⟩ := X1.out.cs
    go_wp2_with (first
      | ((with_reducible show wpList _ _ _ ({ dst := some 8, op := .load _ _, type := _, pos := _, after := _, guard := _ } :: _) _ _); refine wpList_load_msg rfl (.tmp 7) rfl g 2 rfl p.m X1.out.msg ?_)
      | ((with_reducible show wpList _ _ _ ({ dst := none, op := .store _ _ _, type := _, pos := _, after := _, guard := _ } :: _) _ _); refine wpList_store_msg rfl (.tmp 2) (.tmp 8) rfl Nt.zero p.m rfl rfl X2.out ?_; intro w3 hx3 hg3; have X3 := Lib.hid hx3; have B3 := Lib.hid (B.out.grown hg3 B.out.size (fun b hb => by injection hb with hb; have := HG.out; omega)); clear hx3 hg3))
    exact bodyPost_ret (msg_results Try.results15 _ _ rfl X3.out) rfl ⟨rfl, B3.out⟩
  · rw [if_neg h7] at EM
    rw [EM.out]
    go_enter Try.func15, Try.ntmps15
    go_upto_region 1 with fail
    try rw [hfold]
    clear hfold EM
    obtain ⟨g, hg⟩ : ∃ g, g = w.heap.size := ⟨_, rfl⟩
    rw [← hg] at X1 X2 ⊢
    have HG := Lib.hid hg
    clear hg
    obtain ⟨x0, x1, xl⟩ := X1.out.cs
    have h71 : (p.n.tmod 7 == 0) = false := by rw [beq_eq_false_iff_ne]; exact h7
    go_wp2_with (first
      | ((with_reducible show wpList _ _ _ ({ dst := some 10, op := .load _ _, type := _, pos := _, after := _, guard := _ } :: _) _ _); refine wpList_load_msg rfl (.tmp 9) rfl g 2 rfl p.m X1.out.msg ?_)
      | (go_at_call 30; (with_reducible refine (rtgood_any p.m _).mono ?_); rintro e w2 ⟨rfl, hb2⟩; have X2 := Lib.hid (X2.out.on hb2); have B2 := Lib.hid (B.out.trans (hb2.mono B.out.size)); clear hb2)
      | ((with_reducible show wpList _ _ _ ({ dst := none, op := .store _ _ _, type := _, pos := _, after := _, guard := _ } :: _) _ _); refine wpList_store_msg rfl (.tmp 2) (.tmp 11) rfl Nt.zero (Nt.good p.m) rfl rfl X2.out ?_; intro w3 hx3 hg3; have X3 := Lib.hid hx3; have B3 := Lib.hid (B2.out.grown hg3 B2.out.size (fun b hb => by injection hb with hb; have := HG.out; omega)); clear hx3 hg3))
    exact bodyPost_ret (msg_results Try.results15 _ _ rfl X3.out) rfl ⟨rfl, B3.out⟩
theorem npElem : ∀ W : World, (sizeOf (Try.prog.elem 22)).run Try.prog W = .ok 8 W := fun _ => by kernel_rfl
theorem npearly_any (A : Option Addr) (n c : Nat) (l : List Np) (w W : World) (hs : SlN w A n c l) : Calls Try.prog 12 #[.slice A n c] W (fun e w' => e = .returned (.slice A (min n 100) c) ∧ w' = W) := by
  obtain ⟨k, hk⟩ : ∃ k, k = min n 100 := ⟨_, rfl⟩
  rw [← hk]
  have hmn : min (n : Int) 100 = (k : Int) := by omega
  have hcap := hs.1.cap
  have hmax := hs.1.max
  have hc63 : (c : Int) ≤ 9223372036854775807 := by unfold maxLen at hmax; omega
  have hcut : ∀ W : World, (Instr.slice 22 (.slice A n c) none (some (.int .i64 (k : Int))) none).run Try.prog W = .ok (.slice A k c) W := fun W => by
    cases A with
    | none =>
      have hc0 := hs.1.nil rfl
      have hk0 : k = 0 := by omega
      have hn0 : n = 0 := by omega
      subst hn0 hk0 hc0
      rw [run_slice_h _ 22 none 0 0 (by kernel_rfl) IntKind.i64 ((0 : Nat) : Int) (by omega) (by omega), npElem]
      simp [Result.andThen, sliced]
    | some ad =>
      obtain ⟨b, o, f⟩ := ad
      rw [run_slice_h _ 22 (some ⟨b, o, f⟩) n c (by kernel_rfl) IntKind.i64 (k : Int) (by omega) (by omega), npElem]
      cases f <;> simp [Result.andThen, sliced, Addr.add]
  clear hs hk hmax
  go_enter Try.func12, Try.ntmps12
  go_wp2_with fail
  go_ret
  exact ⟨rfl, rfl⟩
end Go.Proofs.Ytmhhjipdbfepiaa
