/-
  Package worker: isCommand, what Apply hands on, change. No condition.
-/
import Derived.Test.YtgljepjflpijiaaWpMem
import Derived.Test.YtgljepjflpijiaaSuDev2
namespace Go.Proofs.Ytgljepjflpijiaa
open Go.RowKit Go.Deep Go.Maps Go.WideMaps
set_option linter.unusedSimpArgs false
set_option linter.unusedVariables false
set_option maxRecDepth 100000

theorem wpseen_any (W : World) (q m : Nat) (s : Wk.W) (h : WpIs W q m s) : Calls Try.prog 15 #[wkp q] W (WkAns (.int .i64 s.seen) W) := by
  obtain ⟨c0, c1, f1, hq⟩ := h.cells
  have B := Lib.hid (Below.refl W.heap.size W)
  clear h
  go_enter Try.func15, Try.ntmps15
  go_wp2_with fail
  go_ret
  exact ⟨rfl, B.out⟩
set_option maxHeartbeats 1600000 in
theorem wpis_any (W : World) (x : Nt.M) {b : Bool} (hb : b = true ↔ Nt.right x = true ∧ x.k = 1) : Calls Try.prog 35 #[Nt.val x] W (fun e w' => e = .returned (.bool b) ∧ Below W.heap.size W w') := by
  have hmin := fun w ts t => run_min5 (P := Try.prog) w ts t x.e x.s x.u x.v x.t
  have B1 := Lib.hid ((Below.refl W.heap.size W).alloc (Nat.le_refl _) (.cells (Nt.cs x) 38))
  by_cases hk : x.k = 1
  · have e : decide (0 ≤ min (min (min (min x.e x.s) x.u) x.v) x.t) = b := by
      rw [Bool.eq_iff_iff, hb]
      unfold Nt.right Nt.mn
      simp [hk]
    generalize min (min (min (min x.e x.s) x.u) x.v) x.t = mm at *
    clear hb
    go_enter Try.func35, Try.ntmps35
    go_wp2_with fail
    go_ret
    exact ⟨rfl, B1.out⟩
  · obtain rfl : b = false := by rw [Bool.eq_false_iff]; intro e; exact hk (hb.1 e).2
    have e : (x.k == 1) = false := by simpa using hk
    clear hb
    go_enter Try.func35, Try.ntmps35
    go_wp2_with fail
    go_ret
    exact ⟨rfl, B1.out⟩
set_option maxHeartbeats 1600000 in
theorem wpwant_any (W : World) (g : Nat) (x : Nt.M) (s : Su.S) (h : NtAt W g x) : Calls Try.prog 36 #[suV s, .pointer (some ⟨g, 0, none⟩)] W (SuPost W (Su.want s x.v x.s) (decide (Su.takes s x.v x.s))) := by
  obtain ⟨k, W1, hW, hk, r0⟩ := su_two 46 46 W s
  have CW := Lib.hid (fun W => sdwant_is s x.v x.s W)
  obtain ⟨r, hr⟩ : ∃ r, r = Su.want s x.v x.s := ⟨_, rfl⟩
  obtain ⟨d, hd⟩ : ∃ d, d = decide (Su.takes s x.v x.s) := ⟨_, rfl⟩
  rw [← hr, ← hd] at CW
  rw [← hr, ← hd]
  obtain ⟨y0, y1, y2, y3, y4, y5, yl⟩ := (h.on r0.b).cs
  have HW := Lib.hid hW
  have HK := Lib.hid hk
  have R := Lib.hid r0
  have c := Lib.hid r0.a.cells
  clear hW hk r0 hr hd h
  unfold suV suC at *
  go_enter Try.func36, Try.ntmps36
  go_upto_region 1 with fail
  rw [← HW.out, ← HK.out]
  obtain ⟨c0, c1, c2, c3, cl⟩ := c.out
  go_wp2_with (go_at_call 37; (with_reducible refine (CW.out _).mono ?_); rintro e w2 ⟨rfl, hb⟩; have R := Lib.hid (R.out.on hb); clear hb c0 c1 c2 c3 cl; obtain ⟨z0, z1, z2, z3, zl⟩ := R.out.r.cells; obtain ⟨k0, k1, k2, k3⟩ := R.out.r.fz)
  exact su_ret Try.results36 Try.underlying46 (by kernel_rfl) (R.out.fill r.st r.v r.wa r.sq) rfl rfl rfl rfl rfl
/-- What a change of a slot is asked: in any world from W on it answers F and B. -/
def SuOver (f : Nat) (cap : Array Value) (W : World) (F : Su.S → Su.S) (B : Su.S → Bool) : Prop := ∀ x W', Below W.heap.size W W' → Calls Try.prog f (#[suV x] ++ cap) W' (SuPost W' (F x) (B x))
/-- What change leaves. -/
def WpCh (W : World) (q m : Nat) (s' : Wk.W) (b : Bool) (e : Ending) (w' : World) : Prop := e = .returned (.bool b) ∧ WpIs w' q m s' ∧ Kept (fun i => i = m) W w'
set_option maxHeartbeats 1600000 in
theorem wpchange_no (W : World) (q m : Nat) (s : Wk.W) (u : Int) (v : Value) (h : WpIs W q m s) (hu : Nt.i64 u) (ho : ¬ Wk.own s u) : Calls Try.prog 38 #[wkp q, .int .i64 u, v] W (WpCh W q m s false) := by
  have CS := Lib.hid (wpslot_any W q m s u h hu)
  have ES : Wk.slotOf s u = Wk.z4 := if_neg ho
  rw [ES, decide_eq_false ho] at CS
  have H := Lib.hid h
  clear h ho hu ES
  unfold Wk.z4 suV suC at CS
  go_enter Try.func38, Try.ntmps38
  go_wp2_with (go_at_call 16; (with_reducible refine CS.out.mono ?_); rintro e w1 ⟨rfl, hb⟩; have B1 := Lib.hid (hb.alloc hb.size (.cells #[.int .i64 0, .int .i64 0, .int .i64 0, .int .i64 0] 46)); clear hb)
  go_ret
  exact ⟨rfl, H.out.on B1.out, Kept.of_below B1.out⟩
set_option maxHeartbeats 3200000 in
theorem wpchange_yes (W : World) (q m : Nat) (s : Wk.W) (u : Int) (h : WpIs W q m s) (hu : Nt.i64 u) (ho : Wk.own s u) (f : Nat) (cap : Array Value) (eg : ∀ args w, (callFunc f args).run Try.prog w = .ok (.enter f args) w)
    (F : Su.S → Su.S) (B : Su.S → Bool) (hF : Wk.Keeps F) (hf : SuOver f cap W F B) : Calls Try.prog 38 #[wkp q, .int .i64 u, .func (.func f) #[] cap] W (WpCh W q m (Wk.chS s u F) (B (s.l u.toNat))) := by
  have CS := Lib.hid (wpslot_any W q m s u h hu)
  have ES : Wk.slotOf s u = s.l u.toNat := if_pos ho
  rw [ES, decide_eq_true ho] at CS
  have PT := Lib.hid (Wk.slots_put ho F)
  have IS : Hid ((Wk.slots s u).isSome = true) := by show _ = true; rw [Wk.slots_is]; simp [ho]
  have OK2 := Lib.hid (Wk.chS_ok (u := u) h.ok hF)
  have CL2 := Lib.hid (Wk.chS_clean (u := u) (F := F) h.clean)
  have SN : Hid ((Wk.chS s u F).seen = s.seen) := by show _ = _; rw [Wk.chS_yes ho]
  have HU := Lib.hid hu
  have H := Lib.hid h
  obtain ⟨x, hx⟩ : ∃ x, x = s.l u.toNat := ⟨_, rfl⟩
  rw [← hx] at CS PT ⊢
  have CF := Lib.hid (hf x)
  obtain ⟨y, hy⟩ : ∃ y, y = F x := ⟨_, rfl⟩
  obtain ⟨bb, hbb⟩ : ∃ b, b = B x := ⟨_, rfl⟩
  rw [← hy, ← hbb] at CF
  rw [← hy] at PT
  rw [← hbb]
  clear h ho hu ES hx hy hbb hf hF
  unfold suV suC at *
  go_enter Try.func38, Try.ntmps38
  go_upto_region 2 with (go_at_call 16; (with_reducible refine CS.out.mono ?_); rintro e w1 ⟨rfl, hb⟩; have B1 := Lib.hid hb; clear hb)
  have B2 := Lib.hid (B1.out.alloc B1.out.size (.cells (suC x) 46))
  have R2 := Lib.hid (SuAt.new 46 w1 x)
  obtain ⟨g, hg⟩ : ∃ g, g = w1.heap.size := ⟨_, rfl⟩
  have G1 : Hid (W.heap.size ≤ g) := by have := B1.out.size; show _ ≤ _; omega
  rw [← hg] at R2 ⊢
  clear hg
  unfold suC at B2 R2
  generalize w1.alloc (.cells #[.int .i64 x.st, .int .i64 x.v, .int .i64 x.wa, .int .i64 x.sq] 46) = W2 at *
  obtain ⟨d0, d1, d2, d3, dl⟩ := R2.out.cells
  go_upto_region 5 with (go_at_fn f; (with_reducible refine (CF.out _ B2.out).mono ?_); rintro e w3 ⟨rfl, hb⟩; have R3 := Lib.hid (R2.out.on hb); have B3 := Lib.hid (B2.out.trans (hb.mono B2.out.size)); clear hb d0 d1 d2 d3 dl; obtain ⟨d0, d1, d2, d3, dl⟩ := R3.out.cells; obtain ⟨k0, k1, k2, k3⟩ := R3.out.fz)
  have R5 : Hid (SuAt 46 ((((w3.setCell ⟨g, 0, none⟩ (.int .i64 y.st)).setCell ⟨g, 1, none⟩ (.int .i64 y.v)).setCell ⟨g, 2, none⟩ (.int .i64 y.wa)).setCell ⟨g, 3, none⟩ (.int .i64 y.sq)) g y) := (((R3.out.set0 y.st).set1 y.v).set2 y.wa).set3 y.sq
  have B5 := Lib.hid ((((B3.out.setCell (p := ⟨g, 0, none⟩) G1.out (.int .i64 y.st)).setCell (p := ⟨g, 1, none⟩) G1.out (.int .i64 y.v)).setCell (p := ⟨g, 2, none⟩) G1.out (.int .i64 y.wa)).setCell (p := ⟨g, 3, none⟩) G1.out (.int .i64 y.sq))
  clear d0 d1 d2 d3 dl k0 k1 k2 k3 R3 B3 R2 B2 CF CS
  generalize (((w3.setCell ⟨g, 0, none⟩ (.int .i64 y.st)).setCell ⟨g, 1, none⟩ (.int .i64 y.v)).setCell ⟨g, 2, none⟩ (.int .i64 y.wa)).setCell ⟨g, 3, none⟩ (.int .i64 y.sq) = W5 at *
  have H5 := Lib.hid (H.out.on B5.out)
  have D5 := Lib.hid (H5.out.on (Below.refl W5.heap.size W5).drew)
  obtain ⟨n, hn, hm⟩ := D5.out.map
  obtain ⟨wd, hrun, hmd, htd⟩ := MapW.At.put (M := SM) hm (by unfold maxLen; omega) u y (wf_i64 HU.out)
  rw [if_pos IS.out, PT.out] at hmd
  have RW : Hid (wd.heap[q]? = some (.cells #[.map (some m), .int .i64 s.seen] 65 (0, 0))) := (htd.grown.block q D5.out.cells.2.2.2 (fun e => D5.out.ne (by injection e))).trans D5.out.row
  have KP : Hid (Kept (fun i => i = m) W wd) := ((Kept.of_below (F := fun i => i = m) B5.out).trans (Kept.of_below (F := fun _ => False) (Below.refl W5.heap.size W5).drew) fun _ _ hf => hf.elim).trans (G := fun i => i = m) (Kept.of_grown htd.grown (fun k hk => by injection hk with hk; exact hk.symm)) fun i _ hi => hi
  have MD := Lib.hid hmd
  have HN := Lib.hid hn
  have hrun2 : (Instr.mapUpdate 63 (.map (some m)) (.int .i64 u) (.agg #[.int .i64 y.st, .int .i64 y.v, .int .i64 y.wa, .int .i64 y.sq])).run Try.prog W5.drew = .ok () wd := hrun
  clear hrun hmd htd hm hn D5
  obtain ⟨c0, c1, f1, hq⟩ := H5.out.cells
  obtain ⟨d0, d1, d2, d3, dl⟩ := R5.out.cells
  go_region
  go_wp2_with fail
  go_ret
  exact ⟨rfl, ⟨by rw [SN.out]; exact RW.out, ⟨n, HN.out, MD.out⟩, OK2.out, CL2.out⟩, KP.out⟩
/-- Both ways at once. -/
theorem wpchange_any (W : World) (q m : Nat) (s : Wk.W) (u : Int) (h : WpIs W q m s) (hu : Nt.i64 u) (f : Nat) (cap : Array Value) (eg : ∀ args w, (callFunc f args).run Try.prog w = .ok (.enter f args) w)
    (F : Su.S → Su.S) (B : Su.S → Bool) (hF : Wk.Keeps F) (hf : SuOver f cap W F B) : Calls Try.prog 38 #[wkp q, .int .i64 u, .func (.func f) #[] cap] W (WpCh W q m (Wk.chS s u F) (Wk.chB s u B)) := by
  unfold Wk.chB
  by_cases ho : Wk.own s u
  · rw [decide_eq_true ho, Bool.true_and]
    exact wpchange_yes W q m s u h hu ho f cap eg F B hF hf
  · rw [decide_eq_false ho, Bool.false_and, Wk.chS_no ho]
    exact wpchange_no W q m s u _ h hu ho
theorem fall_over (W : World) : SuOver 40 #[] W Su.fall (fun x => decide (Su.falls x)) := fun x W' _ => sdfall_is x W'
theorem go_over (W : World) : SuOver 41 #[] W Su.go (fun x => decide (Su.goes x)) := fun x W' _ => sdgo_is x W'
theorem hurt_over (W : World) : SuOver 42 #[] W (fun x => Su.turn x 2 3) (fun x => decide (Su.turns x 2)) := fun x W' _ => sdhurt_is x W'
theorem heal_over (W : World) : SuOver 43 #[] W (fun x => Su.turn x 3 2) (fun x => decide (Su.turns x 3)) := fun x W' _ => sdheal_is x W'
theorem want_over (W : World) (g : Nat) (x : Nt.M) (h : NtAt W g x) : SuOver 36 #[.pointer (some ⟨g, 0, none⟩)] W (fun s => Su.want s x.v x.s) (fun s => decide (Su.takes s x.v x.s)) := fun s W' hb => wpwant_any W' g x s (h.on hb)
end Go.Proofs.Ytgljepjflpijiaa
