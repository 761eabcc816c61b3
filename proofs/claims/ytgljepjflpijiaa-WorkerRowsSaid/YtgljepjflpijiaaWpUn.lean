/-
  Package worker: Units, Count, Fall. No condition.
-/
import Derived.Test.YtgljepjflpijiaaWpAp
import Derived.Test.YtgljepjflpijiaaSortU
import Derived.Laws.IdiomRangeMap
namespace Go.Proofs.Ytgljepjflpijiaa
open Go.RowKit Go.Deep Go.Maps Go.WideMaps
set_option linter.unusedSimpArgs false
set_option linter.unusedVariables false

theorem grown_none {w w' : World} (h : w.grownBy w' none) : Below w.heap.size w w' := (Below.refl w.heap.size w).grown h (Nat.le_refl _) (fun k hk => by cases hk)
theorem Wk.gathered {s : Wk.W} {ks : List Int} (h : ks.Nodup ∧ ∀ k, k ∈ ks ↔ ∃ v, Wk.slots s k = some v ∧ True) : ks.Perm (Wk.units s 16) := by
  refine (List.perm_ext_iff_of_nodup h.1 (Wk.units_nodup s 16)).2 fun k => ?_
  rw [h.2 k, Wk.units_all]
  constructor
  · rintro ⟨v, hv, _⟩
    exact Classical.byContradiction fun hn => by rw [Wk.slots_no hn] at hv; cases hv
  · intro ho
    exact ⟨_, Wk.slots_own ho, trivial⟩
theorem Wk.counted {s : Wk.W} {st : Int} {ks : List Int} (h : ks.Nodup ∧ ∀ k, k ∈ ks ↔ ∃ v, Wk.slots s k = some v ∧ v.st = st) : ks.length = Wk.count s st 16 := by
  rw [← Wk.units_count]
  refine ((List.perm_ext_iff_of_nodup h.1 ((Wk.units_nodup s 16).filter _)).2 fun k => ?_).length_eq
  rw [h.2 k, List.mem_filter, Wk.units_all, decide_eq_true_eq]
  constructor
  · rintro ⟨v, hv, hs⟩
    have ho : Wk.own s k := Classical.byContradiction fun hn => by rw [Wk.slots_no hn] at hv; cases hv
    rw [Wk.slots_own ho] at hv
    obtain rfl := Option.some.inj hv
    exact ⟨ho, hs⟩
  · rintro ⟨ho, hs⟩
    exact ⟨_, Wk.slots_own ho, hs⟩
set_option maxHeartbeats 3200000 in
theorem wpunits_any (W : World) (q m : Nat) (s : Wk.W) (h : WpIs W q m s) : Calls Try.prog 18 #[wkp q] W (fun e w' => ∃ v, e = .returned v ∧ OwnI w' W.heap.size v (Wk.units s 16) ∧ Below W.heap.size W w') := by
  obtain ⟨n, hn, hm⟩ := h.map
  obtain ⟨D, hD, hI⟩ := hm
  have HD := Lib.hid hD
  have HI := Lib.hid hI
  have HN := Lib.hid hn
  have HML : Hid (m < W.heap.size) := h.lt
  obtain ⟨c0, c1, f1, hq⟩ := h.cells
  clear h hD hI hn
  go_enter Try.func18, Try.ntmps18
  go_wp2_with (at_range; refine wpList_range_own _ rfl _ _ rfl _ _ SM.keyed SM.ty SM.R m _ D rfl HD.out ?_; intro w0 hrg0 hg0 hs0; have RG0 := Lib.hid hrg0; have G0 := Lib.hid hg0; have S0 := Lib.hid hs0; clear hrg0 hg0 hs0; go_frame)
  have B0 := Lib.hid (grown_none G0.out)
  obtain ⟨it, hit⟩ : ∃ it, it = W.heap.size := ⟨_, rfl⟩
  rw [← hit] at RG0 ⊢
  have HIT := Lib.hid hit
  have MS := Lib.hid HI.out.size
  clear hit
  go_loopw [3] (fun v wr => ∃ left cnt ks, wr.ranges Try.prog 3 SM.R m it n D left cnt ∧ OwnI wr w0.heap.size v ks ∧ SM.Coll (Wk.slots s) (fun _ _ => True) left ks ∧ ks.length + cnt ≤ n ∧ Below W.heap.size W wr ∧ w0.heap.size ≤ wr.heap.size) (fun _ wr => wr.rangeLeft m it)
  case atStart => exact ⟨_, _, [], RG0.out, World.ownsRow_nil _ _ _ _, MapW.Coll.start HI.out _, by rw [MS.out]; simp, B0.out, Nat.le_refl _⟩
  case round =>
    obtain ⟨left, cnt, ks, hrg, hown, hcoll, hlen, hbr, hsz⟩ := hrel
    have RG := Lib.hid hrg
    have O := Lib.hid hown
    have CO := Lib.hid hcoll
    have LE := Lib.hid hlen
    have B := Lib.hid hbr
    have SZ := Lib.hid hsz
    clear hrg hown hcoll hlen hbr hsz
    go_wp2_with (at_next; refine MapW.Dat.next HI.out rfl _ rfl rfl RG.out ?_ ?_)
    · intro _ hl0
      have ES := Lib.hid (sortI_rise (Wk.gathered (CO.out.all hl0)) (Wk.units_rise s 16))
      have CS := Lib.hid (sortu_own O.out (by have := LE.out; have := HN.out; omega))
      go_wp2_with (go_at_call 39; (with_reducible refine CS.out.mono ?_); rintro en w9 ⟨rfl, ho9, hg9⟩; have O9 := Lib.hid ho9; have G9 := Lib.hid hg9; clear ho9 hg9)
      go_ret
      rw [ES.out] at O9
      have B9 : Below W.heap.size W w9 := B.out.grown G9.out B.out.size (fun k hk => by have := own_base O.out k hk; have := S0.out; omega)
      exact ⟨_, rfl, own_lower O9.out (by have := S0.out; omega), B9⟩
    · intro x c wx cnt1 hok hl hv hrg1 hlt hg1 hs1 hen
      have RG1 := Lib.hid hrg1
      have HS1 := Lib.hid hs1
      have B1 := Lib.hid (B.out.grown hg1 B.out.size (fun k hk => by injection hk with hk; have := HIT.out; omega))
      have HLT := Lib.hid hlt
      have hen2 : (Instr.entry (.pointer (some ⟨it, 0, none⟩))).run Try.prog wx = .ok (.tuple #[.int .i64 x, .agg #[.int .i64 c.st, .int .i64 c.v, .int .i64 c.wa, .int .i64 c.sq]]) wx := hen
      have CO1 := Lib.hid (CO.out.take hl hv trivial)
      have hne : some it ≠ u3.ownBlock := row_ne_iter O.out RG.out
      have O1 : Hid (OwnI wx w0.heap.size u3 ks) := World.ownsRow.kept O.out hg1 (.inr (fun e => hne e.symm))
      have S1 : Hid (w0.heap.size ≤ wx.heap.size) := by have := SZ.out; show _ ≤ _; omega
      have hw : wr.rangeLeft m it = cnt := RG.out.left_eq
      have HW := Lib.hid hw
      have LN : Hid (ks.length ≤ 16) := by have := LE.out; have := HN.out; show _ ≤ _; omega
      clear hok hl hv hrg1 hlt hg1 hs1 hen hne hw
      go_wp2_with (at_builtin; refine wpList_append_num rfl (.tmp 16) (.tmp 18) rfl w0.heap.size _ _ rfl O1.out x rfl (by have := LN.out; omega) S1.out ?_; intro v3 w3 ho3 hg3; have O3 := Lib.hid ho3; have G3 := Lib.hid hg3; clear ho3 hg3)
      have RG3 := RG1.out.kept G3.out (fun e => by have := own_base O1.out m e.symm; have := HML.out; have := S0.out; omega) (row_ne_iter O1.out RG1.out)
      exact ⟨⟨_, _, _, RG3, O3.out, CO1.out, by have := LE.out; have := HLT.out; simp only [List.length_append, List.length_singleton]; omega, B1.out.grown G3.out B1.out.size (fun k hk => by have := own_base O1.out k hk; have := S0.out; omega), Nat.le_trans S1.out G3.out.size⟩, by rw [RG3.left_eq, HW.out]; exact HLT.out⟩
set_option maxHeartbeats 3200000 in
theorem wpcount_any (W : World) (q m : Nat) (s : Wk.W) (st : Int) (h : WpIs W q m s) : Calls Try.prog 19 #[wkp q, .int .i64 st] W (WkAns (.int .i64 (Wk.count s st 16 : Nat)) W) := by
  obtain ⟨n, hn, hm⟩ := h.map
  obtain ⟨D, hD, hI⟩ := hm
  have HD := Lib.hid hD
  have HI := Lib.hid hI
  have HN := Lib.hid hn
  have HML : Hid (m < W.heap.size) := h.lt
  obtain ⟨c0, c1, f1, hq⟩ := h.cells
  clear h hD hI hn
  go_enter Try.func19, Try.ntmps19
  go_wp2_with (at_range; refine wpList_range_own _ rfl _ _ rfl _ _ SM.keyed SM.ty SM.R m _ D rfl HD.out ?_; intro w0 hrg0 hg0 hs0; have RG0 := Lib.hid hrg0; have G0 := Lib.hid hg0; have S0 := Lib.hid hs0; clear hrg0 hg0 hs0; go_frame)
  have B0 := Lib.hid (grown_none G0.out)
  obtain ⟨it, hit⟩ : ∃ it, it = W.heap.size := ⟨_, rfl⟩
  rw [← hit] at RG0 ⊢
  have HIT := Lib.hid hit
  have MS := Lib.hid HI.out.size
  clear hit
  go_loopw [5] (fun v wr => ∃ left cnt ks, wr.ranges Try.prog 3 SM.R m it n D left cnt ∧ v = .int .i64 ((ks.length : Nat) : Int) ∧ SM.Coll (Wk.slots s) (fun _ v => v.st = st) left ks ∧ ks.length + cnt ≤ n ∧ Below W.heap.size W wr) (fun _ wr => wr.rangeLeft m it)
  case atStart => exact ⟨_, _, [], RG0.out, rfl, MapW.Coll.start HI.out _, by rw [MS.out]; simp, B0.out⟩
  case round =>
    obtain ⟨left, cnt, ks, hrg, rfl, hcoll, hlen, hbr⟩ := hrel
    have RG := Lib.hid hrg
    have CO := Lib.hid hcoll
    have LE := Lib.hid hlen
    have B := Lib.hid hbr
    clear hrg hcoll hlen hbr
    go_wp2_with (at_next; refine MapW.Dat.next HI.out rfl _ rfl rfl RG.out ?_ ?_)
    · intro _ hl0
      have ES := Lib.hid (Wk.counted (CO.out.all hl0))
      go_wp2_with fail
      go_ret
      rw [ES.out]
      exact ⟨rfl, B.out⟩
    · intro x c wx cnt1 hok hl hv hrg1 hlt hg1 hs1 hen
      have HS1 := Lib.hid hs1
      have B1 := Lib.hid (B.out.grown hg1 B.out.size (fun k hk => by injection hk with hk; have := HIT.out; omega))
      have HLT := Lib.hid hlt
      have hen2 : (Instr.entry (.pointer (some ⟨it, 0, none⟩))).run Try.prog wx = .ok (.tuple #[.int .i64 x, .agg #[.int .i64 c.st, .int .i64 c.v, .int .i64 c.wa, .int .i64 c.sq]]) wx := hen
      have RG2 := Lib.hid (hrg1.alloc (.cells #[.int .i64 c.st, .int .i64 c.v, .int .i64 c.wa, .int .i64 c.sq] 46))
      have B2 := Lib.hid (B1.out.alloc B1.out.size (.cells #[.int .i64 c.st, .int .i64 c.v, .int .i64 c.wa, .int .i64 c.sq] 46))
      have hw : wr.rangeLeft m it = cnt := RG.out.left_eq
      have HW := Lib.hid hw
      have LN : ((ks.length : Nat) : Int) ≤ 16 := by have := LE.out; have := HN.out; omega
      by_cases hst : c.st = st
      · have CO1 := Lib.hid (CO.out.take hl hv hst)
        have e1 : (c.st == st) = true := by simpa using hst
        clear hok hl hv hrg1 hlt hg1 hs1 hen hw hst
        go_wp2_with fail
        exact ⟨⟨_, _, _, RG2.out, by simp, CO1.out, by have := LE.out; have := HLT.out; simp only [List.length_append, List.length_singleton]; omega, B2.out⟩, by rw [RG2.out.left_eq, HW.out]; exact HLT.out⟩
      · have CO1 := Lib.hid (CO.out.pass hv hst)
        have e1 : (c.st == st) = false := by simpa using hst
        clear hok hl hv hrg1 hlt hg1 hs1 hen hw hst
        go_wp2_with fail
        exact ⟨⟨_, _, _, RG2.out, rfl, CO1.out, by have := LE.out; have := HLT.out; omega, B2.out⟩, by rw [RG2.out.left_eq, HW.out]; exact HLT.out⟩
theorem sli_kept {w w' : World} {X : Nat → Prop} {A : Option Addr} {n c : Nat} {l : List Int} (h : SlI w A n c l) (hk : Kept X w w') (hx : ∀ a, A = some a → ¬ X a.block) : SlI w' A n c l :=
  ⟨fun hl => by
    obtain ⟨b, o, e, h1, h2⟩ := h.rd hl
    exact ⟨b, o, e, Nat.lt_of_lt_of_le h1 hk.size, fun j hj => (World.cell?_of_block (hk.block b h1 (hx _ e))).trans (h2 j hj)⟩, h.len, h.cap, h.max⟩
/-- Blocks that read alike hold the same worker. -/
theorem WpIs.same {w : World} {q m : Nat} {s t : Wk.W} (h : WpIs w q m s) (h1 : Wk.slots t = Wk.slots s) (h2 : t.seen = s.seen) (ho : Wk.Ok t) (hc : Wk.Clean t) : WpIs w q m t := by
  obtain ⟨n, hn, hm⟩ := h.map
  exact ⟨by rw [h2]; exact h.row, ⟨n, hn, by rw [h1]; exact hm⟩, ho, hc⟩
set_option maxHeartbeats 3200000 in
theorem wpfall_any (W : World) (q m : Nat) (s : Wk.W) (h : WpIs W q m s) : Calls Try.prog 20 #[wkp q] W (WpTurn W q m (Wk.fallS s) (.int .i64 (Wk.fallN s.l 16 : Nat))) := by
  have CU := Lib.hid (wpunits_any W q m s h)
  have CC := Lib.hid (fun (W : World) (s : Wk.W) (h : WpIs W q m s) (u : Int) (hu : Nt.i64 u) => wpchange_any W q m s u h hu 40 #[] (enters_of Try.func40 (by kernel_rfl) rfl) _ _ Wk.keeps_fall (fall_over W))
  have H := Lib.hid h
  have ND := Lib.hid (Wk.units_nodup s 16)
  have UO := Lib.hid (fun u => (Wk.units_all s u).1)
  have UL := Lib.hid (Wk.units_le s 16)
  have EN := Lib.hid (Wk.fellM_all h.clean 16 (Nat.le_refl _))
  have ES := Lib.hid (Wk.fallM_all (s := s))
  clear h
  rw [← EN.out]
  generalize Wk.units s 16 = us at *
  go_enter Try.func20, Try.ntmps20
  go_wp2_with (go_at_call 18; (with_reducible refine CU.out.mono ?_); rintro e w1 ⟨v, rfl, hov, hb⟩; have OV := Lib.hid hov; obtain ⟨A, c, rfl, hsl⟩ := hov.sl; have SL := Lib.hid hsl; have NB : Hid (∀ a, A = some a → ¬ a.block = m) := fun a ha e => (by subst ha; have h7 := own_base hov a.block rfl; have h8 := H.out.lt; omega); have B1 := Lib.hid hb; clear hb hov hsl)
  go_loopw [3, 9] (fun v i wr => ∃ j : Nat, j ≤ us.length ∧ i = .int .i64 (j : Nat) ∧ v = .int .i64 ((Wk.fellM s.l (us.take j) : Nat) : Int) ∧ Wk.fellM s.l (us.take j) ≤ j ∧ WpIs wr q m ⟨s.n, s.many, s.seen, Wk.fallM s.l (us.take j)⟩ ∧ SlI wr A us.length c us ∧ Kept (fun i => i = q ∨ i = m) W wr) (fun v i wr => us.length - (intOf i).toNat)
  case atStart => exact ⟨0, Nat.zero_le _, rfl, rfl, Nat.le_refl _, by rw [List.take_zero, Wk.fallM_nil]; exact H.out.on B1.out, SL.out, Kept.of_below B1.out⟩
  case round =>
    obtain ⟨j, hj, rfl, rfl, hfl, hi, hsl, hkp⟩ := hrel
    have I := Lib.hid hi
    have S := Lib.hid hsl
    have K := Lib.hid hkp
    have q2 : ((us.length : Nat) : Int) ≤ 16 := by have := UL.out; omega
    clear hi hsl hkp
    by_cases hlt : j < us.length
    · obtain ⟨b, o, rfl, hbl, hcell⟩ := S.out.rd (by omega)
      have e1 := hcell j hlt
      have ET : Hid (us.take (j + 1) = us.take j ++ [us.getD j 0]) := by show _ = _; rw [List.take_add_one, List.getElem?_eq_getElem hlt, getD_at hlt]; rfl
      have HM : Hid (us.getD j 0 ∈ us) := by show _ ∈ _; rw [getD_at hlt]; exact List.getElem_mem hlt
      have NI : Hid (us.getD j 0 ∉ us.take j) := by
        show _ ∉ _
        have h7 := List.Nodup.sublist (List.take_sublist (j + 1) us) ND.out
        rw [ET.out, List.nodup_append] at h7
        intro h8
        exact h7.2.2 _ h8 _ (List.mem_singleton_self _) rfl
      generalize us.getD j 0 = u at *
      have OW := Lib.hid (UO.out u HM.out)
      have CX := Lib.hid (CC.out wr _ I.out u (by have := OW.out.1; have := OW.out.2.1; unfold Nt.i64; omega))
      have E1 : Hid (Wk.chS ⟨s.n, s.many, s.seen, Wk.fallM s.l (us.take j)⟩ u Su.fall = ⟨s.n, s.many, s.seen, Wk.fallM s.l (us.take (j + 1))⟩) := by
        show _ = _
        rw [Wk.chS_yes (s := ⟨s.n, s.many, s.seen, Wk.fallM s.l (us.take j)⟩) ((Wk.own_of (s := s) (t := ⟨s.n, s.many, s.seen, Wk.fallM s.l (us.take j)⟩) rfl rfl u).2 OW.out)]
        show (⟨s.n, s.many, s.seen, Wk.setL (Wk.fallM s.l (us.take j)) u.toNat (Su.fall (Wk.fallM s.l (us.take j) u.toNat))⟩ : Wk.W) = _
        rw [Wk.fallM_put OW.out.1 NI.out, ET.out]
      have E2 : Hid (Wk.chB ⟨s.n, s.many, s.seen, Wk.fallM s.l (us.take j)⟩ u (fun x => decide (Su.falls x)) = decide (Su.falls (s.l u.toNat))) := by
        show _ = _
        unfold Wk.chB
        rw [decide_eq_true ((Wk.own_of (s := s) (t := ⟨s.n, s.many, s.seen, Wk.fallM s.l (us.take j)⟩) rfl rfl u).2 OW.out), Bool.true_and]
        show decide (Su.falls (Wk.fallM s.l (us.take j) u.toNat)) = _
        rw [Wk.fallM_at OW.out.1 NI.out]
      have E3 : Hid (Wk.fellM s.l (us.take (j + 1)) = Wk.fellM s.l (us.take j) + if Su.falls (s.l u.toNat) then 1 else 0) := by show _ = _; rw [ET.out, Wk.fellM_put]
      rw [E1.out, E2.out] at CX
      have i1 : (0 : Int) ≤ (j : Int) := by omega
      have i2 : (j : Int) < (us.length : Int) := by omega
      have i3 : ((Wk.fellM s.l (us.take j) : Nat) : Int) ≤ 16 := by omega
      have HFL := Lib.hid hfl
      have LT := Lib.hid hlt
      clear hcell hbl E1 E2 ET NI HM hfl hlt
      by_cases hx : Su.falls (s.l u.toNat)
      · rw [decide_eq_true hx] at CX
        rw [if_pos hx] at E3
        clear hx
        generalize Wk.fellM s.l (us.take j) = nf at *
        go_wp2_with (go_at_call 38; (with_reducible refine CX.out.mono ?_); rintro e w5 ⟨rfl, hi5, hk5⟩; have I5 := Lib.hid hi5; have K5 := Lib.hid hk5; clear hi5 hk5)
        have q1 := LT.out
        have q3 := HFL.out
        exact ⟨⟨j + 1, by omega, by go_num, by rw [E3.out]; go_num, by rw [E3.out]; omega, I5.out, sli_kept S.out K5.out NB.out, K.out.trans K5.out fun _ _ hi => .inr hi⟩, by simp [intOf]; omega⟩
      · rw [decide_eq_false hx] at CX
        rw [if_neg hx, Nat.add_zero] at E3
        clear hx
        generalize Wk.fellM s.l (us.take j) = nf at *
        go_wp2_with (go_at_call 38; (with_reducible refine CX.out.mono ?_); rintro e w5 ⟨rfl, hi5, hk5⟩; have I5 := Lib.hid hi5; have K5 := Lib.hid hk5; clear hi5 hk5)
        have q1 := LT.out
        have q3 := HFL.out
        exact ⟨⟨j + 1, by omega, by go_num, by rw [E3.out]; rfl, by rw [E3.out]; omega, I5.out, sli_kept S.out K5.out NB.out, K.out.trans K5.out fun _ _ hi => .inr hi⟩, by simp [intOf]; omega⟩
    · obtain rfl : j = us.length := by omega
      rw [List.take_length] at I ⊢
      clear hfl
      generalize Wk.fellM s.l us = nf at *
      go_wp2_with fail
      go_ret
      exact ⟨rfl, I.out.same ES.out.symm rfl (Wk.fallS_ok H.out.ok) (Wk.fallS_clean H.out.clean), K.out⟩
end Go.Proofs.Ytgljepjflpijiaa
