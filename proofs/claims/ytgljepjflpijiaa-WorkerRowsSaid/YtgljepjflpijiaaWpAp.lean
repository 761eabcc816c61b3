/-
  Package worker: Apply, Go, Hurt, Heal. No condition.
-/
import Derived.Test.YtgljepjflpijiaaWpCh
import Derived.Test.YtgljepjflpijiaaRegion
import Derived.Deep.QuietTactic
import Derived.BigQuiet
namespace Go.Proofs.Ytgljepjflpijiaa
open Go.RowKit Go.Deep Go.Maps Go.WideMaps
set_option linter.unusedSimpArgs false
set_option linter.unusedVariables false

/-- What a call that may change leaves: its two blocks alone are others. -/
def WpTurn (W : World) (q m : Nat) (s' : Wk.W) (v : Value) (e : Ending) (w' : World) : Prop := e = .returned v ∧ WpIs w' q m s' ∧ Kept (fun i => i = q ∨ i = m) W w'
theorem WpCh.turn {W w' : World} {q m : Nat} {s' : Wk.W} {b : Bool} {e : Ending} (h : WpCh W q m s' b e w') : WpTurn W q m s' (.bool b) e w' := ⟨h.1, h.2.1, h.2.2.more fun _ _ hi => .inr hi⟩
theorem wpgo_any (W : World) (q m : Nat) (s : Wk.W) (u : Int) (h : WpIs W q m s) (hu : Nt.i64 u) : Calls Try.prog 21 #[wkp q, .int .i64 u] W (WpTurn W q m (Wk.turnS s u 1) (.bool (decide (Wk.turnB s u 1)))) := by
  rw [Wk.turnS_one, Wk.turnB_one]
  have CC := Lib.hid (wpchange_any W q m s u h hu 41 #[] (enters_of Try.func41 (by kernel_rfl) rfl) _ _ Wk.keeps_go (go_over W))
  clear h hu
  go_enter Try.func21, Try.ntmps21
  go_wp2_with (go_at_call 38; (with_reducible refine CC.out.mono ?_); rintro e w1 hp; have HP := Lib.hid hp.turn; obtain ⟨rfl, -, -⟩ := hp)
  go_ret
  exact ⟨rfl, HP.out.2⟩
theorem wphurt_any (W : World) (q m : Nat) (s : Wk.W) (u : Int) (h : WpIs W q m s) (hu : Nt.i64 u) : Calls Try.prog 23 #[wkp q, .int .i64 u] W (WpTurn W q m (Wk.turnS s u 2) (.bool (decide (Wk.turnB s u 2)))) := by
  rw [Wk.turnS_two, Wk.turnB_two]
  have CC := Lib.hid (wpchange_any W q m s u h hu 42 #[] (enters_of Try.func42 (by kernel_rfl) rfl) _ _ (Wk.keeps_turn (a := 2) (b := 3) (by omega) (by omega)) (hurt_over W))
  clear h hu
  go_enter Try.func23, Try.ntmps23
  go_wp2_with (go_at_call 38; (with_reducible refine CC.out.mono ?_); rintro e w1 hp; have HP := Lib.hid hp.turn; obtain ⟨rfl, -, -⟩ := hp)
  go_ret
  exact ⟨rfl, HP.out.2⟩
theorem wpheal_any (W : World) (q m : Nat) (s : Wk.W) (u : Int) (h : WpIs W q m s) (hu : Nt.i64 u) : Calls Try.prog 24 #[wkp q, .int .i64 u] W (WpTurn W q m (Wk.turnS s u 3) (.bool (decide (Wk.turnB s u 3)))) := by
  rw [Wk.turnS_three, Wk.turnB_three]
  have CC := Lib.hid (wpchange_any W q m s u h hu 43 #[] (enters_of Try.func43 (by kernel_rfl) rfl) _ _ (Wk.keeps_turn (a := 3) (b := 2) (by omega) (by omega)) (heal_over W))
  clear h hu
  go_enter Try.func24, Try.ntmps24
  go_wp2_with (go_at_call 38; (with_reducible refine CC.out.mono ?_); rintro e w1 hp; have HP := Lib.hid hp.turn; obtain ⟨rfl, -, -⟩ := hp)
  go_ret
  exact ⟨rfl, HP.out.2⟩
theorem WpIs.seen {w : World} {q m : Nat} {s : Wk.W} (h : WpIs w q m s) {x : Int} (hx : 0 ≤ x ∧ x ≤ 9223372036854775807) : WpIs (w.setCell ⟨q, 1, none⟩ (.int .i64 x)) q m ⟨s.n, s.many, x, s.l⟩ := by
  obtain ⟨n, hn, hm⟩ := h.map
  refine ⟨heap_setCell_same w q 1 _ _ _ h.row, ⟨n, hn, ?_⟩, ⟨h.ok.new, hx, h.ok.right, h.ok.inn⟩, h.clean⟩
  have h2 := hm.keep (w' := w.setCell ⟨q, 1, none⟩ (.int .i64 x)) (Below.heap_setCell _ _ _ _ (by have := h.ne; simpa using this.symm))
  exact h2
set_option maxHeartbeats 3200000 in
theorem wpapply_wrong (W : World) (q m : Nat) (s : Wk.W) (x : Nt.M) (h : WpIs W q m s) (hc : ¬ (Nt.right x = true ∧ x.k = 1)) : Calls Try.prog 17 #[wkp q, Nt.val x] W (WpTurn W q m s (.int .i64 1)) := by
  have CI := Lib.hid (fun W => wpis_any W x (b := false) (by simpa using hc))
  have B1 := Lib.hid ((Below.refl W.heap.size W).alloc (Nat.le_refl _) (.cells (Nt.cs x) 38))
  have N1 := Lib.hid (NtAt.new W x)
  have H := Lib.hid h
  clear h hc
  obtain ⟨W1, hW⟩ : ∃ W1, W1 = W.alloc (.cells #[.int .i64 x.k, .int .i64 x.e, .int .i64 x.s, .int .i64 x.u, .int .i64 x.v, .int .i64 x.t] 38) := ⟨_, rfl⟩
  obtain ⟨g, hg⟩ : ∃ g, g = W.heap.size := ⟨_, rfl⟩
  unfold Nt.cs at B1 N1
  rw [← hW] at B1 N1
  rw [← hg] at N1
  have HW := Lib.hid hW
  have HG := Lib.hid hg
  clear hW hg
  go_enter Try.func17, Try.ntmps17
  go_upto_region 1 with fail
  rw [← HW.out, ← HG.out]
  obtain ⟨y0, y1, y2, y3, y4, y5, yl⟩ := N1.out.cs
  go_wp2_with (first
    | (go_at_call 35; (with_reducible refine (CI.out _).mono ?_); rintro e w2 ⟨rfl, hb⟩; have B2 := Lib.hid (B1.out.trans (hb.mono B1.out.size)); clear hb y0 y1 y2 y3 y4 y5 yl))
  go_ret
  exact ⟨rfl, H.out.on B2.out, Kept.of_below B2.out⟩
set_option maxHeartbeats 3200000 in
theorem wpapply_none (W : World) (q m : Nat) (s : Wk.W) (x : Nt.M) (h : WpIs W q m s) (hx : Nt.In x) (hc : Nt.right x = true ∧ x.k = 1) (ho : ¬ Wk.own s x.u) : Calls Try.prog 17 #[wkp q, Nt.val x] W (WpTurn W q m s (.int .i64 5)) := by
  have CI := Lib.hid (fun W => wpis_any W x (b := true) (by simpa using hc))
  have B1 := Lib.hid ((Below.refl W.heap.size W).alloc (Nat.le_refl _) (.cells (Nt.cs x) 38))
  have N1 := Lib.hid (NtAt.new W x)
  have CS := Lib.hid (fun W2 h2 => wpslot_any W2 q m s x.u h2 hx.u)
  have ES : Wk.slotOf s x.u = Wk.z4 := if_neg ho
  rw [ES, decide_eq_false ho] at CS
  have H := Lib.hid h
  clear h hc ho hx ES
  obtain ⟨W1, hW⟩ : ∃ W1, W1 = W.alloc (.cells #[.int .i64 x.k, .int .i64 x.e, .int .i64 x.s, .int .i64 x.u, .int .i64 x.v, .int .i64 x.t] 38) := ⟨_, rfl⟩
  obtain ⟨g, hg⟩ : ∃ g, g = W.heap.size := ⟨_, rfl⟩
  unfold Nt.cs at B1 N1
  unfold Wk.z4 suV suC at CS
  rw [← hW] at B1 N1
  rw [← hg] at N1
  have HW := Lib.hid hW
  have HG := Lib.hid hg
  clear hW hg
  go_enter Try.func17, Try.ntmps17
  go_upto_region 1 with fail
  rw [← HW.out, ← HG.out]
  obtain ⟨y0, y1, y2, y3, y4, y5, yl⟩ := N1.out.cs
  go_upto_region 3 with (first
    | (go_at_call 35; (with_reducible refine (CI.out _).mono ?_); rintro e w2 ⟨rfl, hb⟩; have N2 := Lib.hid (N1.out.on hb); have B2 := Lib.hid (B1.out.trans (hb.mono B1.out.size)); clear hb y0 y1 y2 y3 y4 y5 yl))
  obtain ⟨y0, y1, y2, y3, y4, y5, yl⟩ := N2.out.cs
  go_wp2_with (go_at_call 16; (with_reducible refine (CS.out _ (H.out.on B2.out)).mono ?_); rintro e w3 ⟨rfl, hb⟩; have B4 := Lib.hid ((B2.out.trans (hb.mono B2.out.size)).alloc (B2.out.trans (hb.mono B2.out.size)).size (.cells #[.int .i64 0, .int .i64 0, .int .i64 0, .int .i64 0] 46)); clear hb)
  go_ret
  exact ⟨rfl, H.out.on B4.out, Kept.of_below B4.out⟩
set_option maxHeartbeats 3200000 in
theorem wpapply_own (W : World) (q m : Nat) (s : Wk.W) (x : Nt.M) (h : WpIs W q m s) (hx : Nt.In x) (hc : Nt.right x = true ∧ x.k = 1) (ho : Wk.own s x.u) {s' : Wk.W} {v : Int}
    (he : x.e < s.seen ∧ s' = s ∧ v = 8 ∨ ¬ x.e < s.seen ∧ s' = Wk.chS ⟨s.n, s.many, x.e, s.l⟩ x.u (fun s => Su.want s x.v x.s) ∧ v = if Su.takes (s.l x.u.toNat) x.v x.s then 0 else 7) : Calls Try.prog 17 #[wkp q, Nt.val x] W (WpTurn W q m s' (.int .i64 v)) := by
  have CI := Lib.hid (fun W => wpis_any W x (b := true) (by simpa using hc))
  have B1 := Lib.hid ((Below.refl W.heap.size W).alloc (Nat.le_refl _) (.cells (Nt.cs x) 38))
  have N1 := Lib.hid (NtAt.new W x)
  have CS := Lib.hid (fun W2 h2 => wpslot_any W2 q m s x.u h2 hx.u)
  have ES : Wk.slotOf s x.u = s.l x.u.toNat := if_pos ho
  rw [ES, decide_eq_true ho] at CS
  have H := Lib.hid h
  have XI := Lib.hid hx
  have OW := Lib.hid ho
  have hx0 : Hid (0 ≤ x.e) := by
    have := hc.1
    unfold Nt.right Nt.mn at this
    simp only [Bool.and_eq_true, decide_eq_true_eq] at this
    show 0 ≤ x.e
    omega
  have HE := Lib.hid he
  obtain ⟨z, hz⟩ : ∃ z, z = s.l x.u.toNat := ⟨_, rfl⟩
  have HZ := Lib.hid hz
  rw [← hz] at CS
  clear h hc ho hx ES hz he
  obtain ⟨W1, hW⟩ : ∃ W1, W1 = W.alloc (.cells #[.int .i64 x.k, .int .i64 x.e, .int .i64 x.s, .int .i64 x.u, .int .i64 x.v, .int .i64 x.t] 38) := ⟨_, rfl⟩
  obtain ⟨g, hg⟩ : ∃ g, g = W.heap.size := ⟨_, rfl⟩
  unfold Nt.cs at B1 N1
  unfold suV suC at CS
  rw [← hW] at B1 N1
  rw [← hg] at N1
  have HW := Lib.hid hW
  have HG := Lib.hid hg
  clear hW hg
  go_enter Try.func17, Try.ntmps17
  go_upto_region 1 with fail
  rw [← HW.out, ← HG.out]
  obtain ⟨y0, y1, y2, y3, y4, y5, yl⟩ := N1.out.cs
  go_upto_region 3 with (first
    | (go_at_call 35; (with_reducible refine (CI.out _).mono ?_); rintro e w2 ⟨rfl, hb⟩; have N2 := Lib.hid (N1.out.on hb); have B2 := Lib.hid (B1.out.trans (hb.mono B1.out.size)); clear hb y0 y1 y2 y3 y4 y5 yl))
  obtain ⟨y0, y1, y2, y3, y4, y5, yl⟩ := N2.out.cs
  go_upto_region 6 with (go_at_call 16; (with_reducible refine (CS.out _ (H.out.on B2.out)).mono ?_); rintro e w3 ⟨rfl, hb⟩; have N3 := Lib.hid (N2.out.on hb); have B3 := Lib.hid (B2.out.trans (hb.mono B2.out.size)); clear hb)
  clear y0 y1 y2 y3 y4 y5 yl
  have N4 := Lib.hid (N3.out.on ((Below.refl w3.heap.size w3).alloc (Nat.le_refl _) (.cells #[.int .i64 z.st, .int .i64 z.v, .int .i64 z.wa, .int .i64 z.sq] 46)))
  have B4 := Lib.hid (B3.out.alloc B3.out.size (.cells #[.int .i64 z.st, .int .i64 z.v, .int .i64 z.wa, .int .i64 z.sq] 46))
  generalize w3.alloc (.cells #[.int .i64 z.st, .int .i64 z.v, .int .i64 z.wa, .int .i64 z.sq] 46) = W4 at *
  have H4 := Lib.hid (H.out.on B4.out)
  obtain ⟨y0, y1, y2, y3, y4, y5, yl⟩ := N4.out.cs
  obtain ⟨c0, c1, f1, hq⟩ := H4.out.cells
  rcases HE.out with ⟨h1, h2, h3⟩ | ⟨h1, h2, h3⟩
  · subst h2 h3
    have g1 : decide (x.e < s'.seen) = true := decide_eq_true h1
    clear h1
    go_quiet (fail)
    go_wp2_with fail
    go_ret
    exact ⟨rfl, H4.out.on (Below.drewN (Below.refl _ _) _), Kept.of_below (Below.drewN B4.out _)⟩
  · have g1 : decide (x.e < s.seen) = false := decide_eq_false (by omega)
    subst h2
    have EV := Lib.hid h3
    clear h3
    have EB : Hid (Wk.chB ⟨s.n, s.many, x.e, s.l⟩ x.u (fun s => decide (Su.takes s x.v x.s)) = decide (Su.takes (s.l x.u.toNat) x.v x.s)) := by
      show _ = _
      unfold Wk.chB
      rw [decide_eq_true (show Wk.own ⟨s.n, s.many, x.e, s.l⟩ x.u from OW.out), Bool.true_and]
    have hmf : ∀ (fn : Fn) (first cap : Array Value) (w : World), (Instr.makeFunc fn first cap).run Try.prog w = .ok (.func fn first cap) w := fun _ _ _ _ => rfl
    have GQ : Hid (g ≠ q) := by have := H.out.cells.2.2.2; have := HG.out; show _ ≠ _; omega
    clear h1 HE
    go_quiet (fail)
    go_upto_region 9 with fail
    have H5 := Lib.hid ((H4.out.on (Below.drewN (Below.refl W4.heap.size W4) nq)).seen (x := x.e) ⟨hx0.out, XI.out.e.2⟩)
    have N5 : Hid (NtAt ((W4.drewN nq).setCell ⟨q, 1, none⟩ (.int .i64 x.e)) g x) := (N4.out.on (Below.drewN (Below.refl W4.heap.size W4) nq)).keep (Below.heap_setCell _ _ _ _ (by have := GQ.out; simpa using this))
    have K5 : Hid (Kept (fun i => i = q ∨ i = m) W ((W4.drewN nq).setCell ⟨q, 1, none⟩ (.int .i64 x.e))) := (Kept.of_below (F := fun i => i = q ∨ i = m) (Below.drewN B4.out nq)).trans (G := fun i => i = q) (Kept.of_grown (row := some q) (grown_set _ _ _ _) (fun k hk => by injection hk with hk; exact hk.symm)) fun i _ hi => .inl hi
    clear y0 y1 y2 y3 y4 y5 yl c0 c1 f1 hq N4 H4 B4 g1 N1 N2 N3 B1 B2 B3 CI CS HW
    generalize (W4.drewN nq).setCell ⟨q, 1, none⟩ (.int .i64 x.e) = W5 at *
    have CC := Lib.hid (wpchange_any W5 q m ⟨s.n, s.many, x.e, s.l⟩ x.u H5.out XI.out.u 36 #[.pointer (some ⟨g, 0, none⟩)] (enters_of Try.func36 (by kernel_rfl) rfl) _ _ (Wk.keeps_want XI.out.v XI.out.s) (want_over W5 g x N5.out))
    rw [EB.out] at CC
    obtain ⟨y0, y1, y2, y3, y4, y5, yl⟩ := N5.out.cs
    by_cases ht : Su.takes (s.l x.u.toNat) x.v x.s
    · rw [if_pos ht] at EV
      rw [decide_eq_true ht] at CC
      clear ht EB
      go_wp2_with (go_at_call 38; (with_reducible refine CC.out.mono ?_); rintro e w6 hp; have HP := Lib.hid hp.turn; obtain ⟨rfl, -, -⟩ := hp)
      go_ret
      rw [EV.out]
      exact ⟨rfl, HP.out.2.1, K5.out.trans HP.out.2.2 fun _ _ hi => hi⟩
    · rw [if_neg ht] at EV
      rw [decide_eq_false ht] at CC
      clear ht EB
      go_wp2_with (go_at_call 38; (with_reducible refine CC.out.mono ?_); rintro e w6 hp; have HP := Lib.hid hp.turn; obtain ⟨rfl, -, -⟩ := hp)
      go_ret
      rw [EV.out]
      exact ⟨rfl, HP.out.2.1, K5.out.trans HP.out.2.2 fun _ _ hi => hi⟩
theorem wpapply_any (W : World) (q m : Nat) (s : Wk.W) (x : Nt.M) (h : WpIs W q m s) (hx : Nt.In x) : Calls Try.prog 17 #[wkp q, Nt.val x] W (WpTurn W q m (Wk.applyS s x) (.int .i64 (Wk.applyE s x))) := by
  unfold Wk.applyS Wk.applyE
  by_cases hc : Nt.right x = true ∧ x.k = 1
  · by_cases ho : Wk.own s x.u
    · by_cases he : x.e < s.seen
      · rw [if_pos (.inr (.inr he)), if_neg (fun h => h hc), if_neg (fun h => h ho), if_pos he]
        exact wpapply_own W q m s x h hx hc ho (.inl ⟨he, rfl, rfl⟩)
      · rw [if_neg (by rintro (h | h | h); exact h hc; exact h ho; exact he h), if_neg (fun h => h hc), if_neg (fun h => h ho), if_neg he]
        refine wpapply_own W q m s x h hx hc ho (.inr ⟨he, ?_, rfl⟩)
        rw [Wk.chS_yes (s := ⟨s.n, s.many, x.e, s.l⟩) ho]
    · rw [if_pos (.inr (.inl ho)), if_neg (fun h => h hc), if_pos ho]
      exact wpapply_none W q m s x h hx hc ho
  · rw [if_pos (.inl hc), if_pos hc]
    exact wpapply_wrong W q m s x h hc
end Go.Proofs.Ytgljepjflpijiaa
