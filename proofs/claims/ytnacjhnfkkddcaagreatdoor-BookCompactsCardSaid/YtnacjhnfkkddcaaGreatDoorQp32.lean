import Derived.Test.YtnacjhnfkkddcaaGreatDoorQp31
set_option maxHeartbeats 6400000
set_option maxRecDepth 100000
set_option linter.unusedSimpArgs false
set_option linter.unusedVariables false
namespace Go.Proofs.YtnacjhnfkkddcaaGreatDoor
open Go.RowKit
theorem us_eq (u t : Nat → Bk.Un) (W : World) : (binOp .eql 38 (.agg (Bk.uC u)) (.agg (Bk.uC t))).run Tryz.prog W = .ok (.bool (Bk.usSame u t)) W := by
 have h := us_eqIn u t 9996 W
 rw [run_eql_struct, h]; rfl
theorem jay {a : Act} {oi : Oper} (ty : TypeId) (x : Operand) (ho : oi.op = .load ty x) (b o : Nat) (cs : Array Value) (d : TypeDesc) (hx : a.eval x = .pointer (some ⟨b, o, none⟩)) {W : World} (h : W.rangeAt b o cs.toList) (hu : Tryz.prog.underlying ty = some d) (hd : d.isRow = true) (hi : (Tryz.prog.info? ty).map (·.size) = some cs.toList.length) : (execOp a.eval oi).run Tryz.prog W = .ok (.value (.agg cs)) W := by
 have := run_loadVar_mid (P := Tryz.prog) W b o ty cs.toList d h hu hd hi
 rw [Array.toArray_toList] at this
 unfold execOp
 simp only [ho, hx, Instr.loadAt, Instr.sureAddr, Sem.run_bind, Sem.run_pure, Result.andThen_ok, this]
theorem jfj {w : World} {q : Nat} {s : Bk.St} {ru : Nat → Bk.Un} {rv : Int} {lm km H : Value} (h : BdAt w q s ru rv lm km H) : w.rangeAt q 26 (Bk.uC ru).toList := by
 intro j v hv
 have hj : j < 48 := (List.getElem?_eq_some_iff.1 hv).1
 rw [cell_of_row w q _ _ _ _ h.row]
 rcases j with _ | _ | _ | _ | _ | _ | _ | _ | _ | _ | _ | _ | _ | _ | _ | _ | _ | _ | _ | _ | _ | _ | _ | _ | _ | _ | _ | _ | _ | _ | _ | _ | _ | _ | _ | _ | _ | _ | _ | _ | _ | _ | _ | _ | _ | _ | _ | _ | j
 all_goals first | exact hv | omega
theorem bd_hist {w : World} {q : Nat} {s : Bk.St} {ru : Nat → Bk.Un} {rv : Int} {lm km H : Value} (h : BdAt w q s ru rv lm km H) : w.cell? ⟨q, 74, none⟩ = some H := by
 rw [cell_of_row w q _ _ _ _ h.row]; rfl
structure CmpB (W : World) (q : Nat) (s : Bk.St) (ru : Nat → Bk.Un) (A : Option Addr) (c : Nat) : Prop where
 vw : W.rangeAt q 4 (Bk.viewC s).toList
 us : W.rangeAt q 26 (Bk.uC ru).toList
 hc : W.cell? ⟨q, 74, none⟩ = some (.slice A s.h.length c)
 hs : SlF Bk.rcC W A s.h.length c s.h
 raw : Bd.Raw ru s.us
 lt : q < W.heap.size
theorem jm3 {w0 W : World} {F : Nat → Prop} {q : Nat} {s : Bk.St} (h : BP w0 F q s W) : ∃ ru A c, CmpB W q s ru A c := by
 obtain ⟨X, ⟨ru, rv, lo, ko, H, K, h1, _⟩, _⟩ := h
 obtain ⟨A, c, rfl⟩ := h1.h.form
 exact ⟨ru, A, c, jc1 h1.at_, jfj h1.at_, bd_hist h1.at_, h1.h.sl, h1.raw, h1.at_.lt⟩
theorem CmpB.on {W W' : World} {q : Nat} {s : Bk.St} {ru : Nat → Bk.Un} {A : Option Addr} {c : Nat} (h : CmpB W q s ru A c) (hb : Below W.heap.size W W') : CmpB W' q s ru A c :=
 ⟨jbg h.vw (hb.block q h.lt), jbg h.us (hb.block q h.lt), (hb.cell (p := ⟨q, 74, none⟩) h.lt).trans h.hc, h.hs.on hb, h.raw, Nat.lt_of_lt_of_le h.lt hb.size⟩
theorem jj2 {s t : Bk.St} : Bk.Like s t ↔ (Bk.vwSame s t = true ∧ (∀ i, i < 16 → s.us i = t.us i) ∧ s.h = t.h ∧ s.vs = t.vs) := by
 rw [Bk.vwSame_iff]
 constructor
 ·intro h
  exact ⟨⟨h.ep, h.who, h.till, h.stable, h.from_, h.ph, h.step, h.since, h.begun, h.seq, h.sp⟩, h.us, h.h, h.vs⟩
 ·rintro ⟨⟨h1, h2, h3, h4, h5, h6, h7, h8, h9, h10, h11⟩, h12, h13, h14⟩
  exact ⟨h1, h2, h3, h4, h5, h6, h7, h8, h9, h10, h11, h12, h14, h13⟩
theorem je2 {w0 w1 W : World} {F G : Nat → Prop} {qa qb : Nat} {s t : Bk.St} (ha : BP w0 F qa s W) (hb : BP w1 G qb t W) (ht : BT W) : Calls Tryz.prog 25 #[.pointer (some ⟨qa, 0, none⟩), .pointer (some ⟨qb, 0, none⟩)] W (jcs (Bk.Like s t) W) := by
 obtain ⟨ra, AA, ca, hca⟩ := jm3 ha
 obtain ⟨rb, AB, cb, hcb⟩ := jm3 hb
 have KA := zh (fun X (h : Below W.heap.size W X) => hca.on h)
 have KB := zh (fun X (h : Below W.heap.size W X) => hcb.on h)
 have CS := zh (fun X (h : Below W.heap.size W X) => jm2 (jbj ha h) (jbj hb h) (ht.on h))
 have LA : Hid (s.h.length ≤ 24) := (joa ha).hl
 have US := zh (hca.raw.same hcb.raw)
 have LP := zh (jj2 (s := s) (t := t))
 rw [US.out, ← Bk.usSame_iff] at LP
 clear ha hb ht hca hcb US
 go_enter Tryz.func25, Tryz.ntmps25
 go_upto_region 2 with (first | (go_at_call 44; (with_reducible refine (je1 qb _).mono ?_); rintro e wb ⟨rfl, hb⟩; have B0 := zh (BA.out.trans (hb.mono BA.out.size)); clear hb BA) | (go_at_call 44; (with_reducible refine (je1 qa _).mono ?_); rintro e wa ⟨rfl, hb⟩; have BA := zh hb; clear hb))
 have hve : ∀ W, (binOp .eql 48 (.agg (Bk.viewC s)) (.agg (Bk.viewC t))).run Tryz.prog W = .ok (.bool (Bk.vwSame s t)) W := fun W => vw_eq s t W
 have hue : ∀ W, (binOp .eql 38 (.agg (Bk.uC ra)) (.agg (Bk.uC rb))).run Tryz.prog W = .ok (.bool (Bk.usSame ra rb)) W := fun W => us_eq ra rb W
 generalize Bk.vwSame s t = vz at *
 generalize Bk.usSame ra rb = uz at *
 cases vz with
 | false =>
  have NO : Hid (¬ Bk.Like s t) := fun h => by have := (LP.out.1 h).1; cases this
  clear LP CS
  refine wp_region_held_drew (S := fun X => Below W.heap.size W X) (by kernel_rfl) B0.out.drew (fun hS => ?_)
  refine tY 0 hS ?_
  refine tY 1 hS ?_
  refine tY 2 hS ?_
  refine tZ 3 (v := .agg (Bk.viewC s)) rfl (fun W hW => jay 48 (.tmp 11) rfl qa 4 (Bk.viewC s) _ rfl (KA.out W hW).vw jas rfl (ja7 s)) hS ?_
  refine tY 4 hS ?_
  refine tY 5 hS ?_
  simp only [Act.put, zT, zO, zS]
  refine tY 6 hS ?_
  refine tZ 7 (v := .agg (Bk.viewC t)) rfl (fun W hW => jay 48 (.tmp 15) rfl qb 4 (Bk.viewC t) _ rfl (KB.out W hW).vw jas rfl (ja7 t)) hS ?_
  refine tY 8 hS ?_
  refine tY 9 hS ?_
  refine tN 10 hS ?_
  refine tN 11 hS ?_
  simp only [Act.put, zT, zO, zS]
  refine tN 12 hS ?_
  refine tN 13 hS ?_
  refine tN 14 hS ?_
  refine tN 15 hS ?_
  refine tN 16 hS ?_
  refine tN 17 hS ?_
  simp only [Act.put, zT, zO, zS]
  refine tN 18 hS ?_
  refine tY 19 hS ?_
  refine tY 20 hS ?_
  refine tN 21 hS ?_
  refine tN 22 hS ?_
  refine tN 23 hS ?_
  simp only [Act.put, zT, zO, zS]
  refine tN 24 hS ?_
  refine tN 25 hS ?_
  refine tN 26 hS ?_
  refine tN 27 hS ?_
  refine tN 28 hS ?_
  refine tN 29 hS ?_
  simp only [Act.put, zT, zO, zS]
  refine tY 30 hS ?_
  refine tY 31 hS ?_
  refine tN 32 hS ?_
  refine tN 33 hS ?_
  refine tN 34 hS ?_
  refine tY 35 hS ?_
  simp only [Act.put, zT, zO, zS]
  refine tY 36 hS ?_
  simp only [Act.put, zT, zO, zS]
  refine wpAnyH_done (by kernel_rfl) ?_ _
  have D5 := zh hS
  clear hS
  go_wp2_with fail
  go_ret
  exact ⟨⟨false, rfl, by simp only [Bool.false_eq_true, false_iff]; exact NO.out⟩, D5.out⟩
 | true =>
  cases uz with
  | false =>
   have NO : Hid (¬ Bk.Like s t) := fun h => by have := (LP.out.1 h).2.1; cases this
   clear LP CS
   refine wp_region_held_drew (S := fun X => Below W.heap.size W X) (by kernel_rfl) B0.out.drew (fun hS => ?_)
   refine tY 0 hS ?_
   refine tY 1 hS ?_
   refine tY 2 hS ?_
   refine tZ 3 (v := .agg (Bk.viewC s)) rfl (fun W hW => jay 48 (.tmp 11) rfl qa 4 (Bk.viewC s) _ rfl (KA.out W hW).vw jas rfl (ja7 s)) hS ?_
   refine tY 4 hS ?_
   refine tY 5 hS ?_
   simp only [Act.put, zT, zO, zS]
   refine tY 6 hS ?_
   refine tZ 7 (v := .agg (Bk.viewC t)) rfl (fun W hW => jay 48 (.tmp 15) rfl qb 4 (Bk.viewC t) _ rfl (KB.out W hW).vw jas rfl (ja7 t)) hS ?_
   refine tY 8 hS ?_
   refine tY 9 hS ?_
   refine tY 10 hS ?_
   refine tY 11 hS ?_
   simp only [Act.put, zT, zO, zS]
   refine tY 12 hS ?_
   refine tZ 13 (v := .agg (Bk.uC ra)) rfl (fun W hW => jay 38 (.tmp 21) rfl qa 26 (Bk.uC ra) _ rfl (KA.out W hW).us jd1 rfl (jda ra)) hS ?_
   refine tY 14 hS ?_
   refine tY 15 hS ?_
   refine tY 16 hS ?_
   refine tZ 17 (v := .agg (Bk.uC rb)) rfl (fun W hW => jay 38 (.tmp 25) rfl qb 26 (Bk.uC rb) _ rfl (KB.out W hW).us jd1 rfl (jda rb)) hS ?_
   simp only [Act.put, zT, zO, zS]
   refine tY 18 hS ?_
   refine tY 19 hS ?_
   refine tY 20 hS ?_
   refine tN 21 hS ?_
   refine tN 22 hS ?_
   refine tN 23 hS ?_
   simp only [Act.put, zT, zO, zS]
   refine tN 24 hS ?_
   refine tN 25 hS ?_
   refine tN 26 hS ?_
   refine tN 27 hS ?_
   refine tN 28 hS ?_
   refine tN 29 hS ?_
   simp only [Act.put, zT, zO, zS]
   refine tY 30 hS ?_
   refine tY 31 hS ?_
   refine tN 32 hS ?_
   refine tN 33 hS ?_
   refine tN 34 hS ?_
   refine tY 35 hS ?_
   simp only [Act.put, zT, zO, zS]
   refine tY 36 hS ?_
   simp only [Act.put, zT, zO, zS]
   refine wpAnyH_done (by kernel_rfl) ?_ _
   have D5 := zh hS
   clear hS
   go_wp2_with fail
   go_ret
   exact ⟨⟨false, rfl, by simp only [Bool.false_eq_true, false_iff]; exact NO.out⟩, D5.out⟩
  | true =>
   by_cases hh : s.h = t.h
   ·have HH := zh hh
    have LP2 : Hid (Bk.Like s t ↔ s.vs = t.vs) := ⟨fun h => (LP.out.1 h).2.2.2, fun h => LP.out.2 ⟨rfl, rfl, HH.out, h⟩⟩
    clear hh LP
    refine wp_region_held_drew (S := fun X => Below W.heap.size W X) (by kernel_rfl) B0.out.drew (fun hS => ?_)
    refine tY 0 hS ?_
    refine tY 1 hS ?_
    refine tY 2 hS ?_
    refine tZ 3 (v := .agg (Bk.viewC s)) rfl (fun W hW => jay 48 (.tmp 11) rfl qa 4 (Bk.viewC s) _ rfl (KA.out W hW).vw jas rfl (ja7 s)) hS ?_
    refine tY 4 hS ?_
    refine tY 5 hS ?_
    simp only [Act.put, zT, zO, zS]
    refine tY 6 hS ?_
    refine tZ 7 (v := .agg (Bk.viewC t)) rfl (fun W hW => jay 48 (.tmp 15) rfl qb 4 (Bk.viewC t) _ rfl (KB.out W hW).vw jas rfl (ja7 t)) hS ?_
    refine tY 8 hS ?_
    refine tY 9 hS ?_
    refine tY 10 hS ?_
    refine tY 11 hS ?_
    simp only [Act.put, zT, zO, zS]
    refine tY 12 hS ?_
    refine tZ 13 (v := .agg (Bk.uC ra)) rfl (fun W hW => jay 38 (.tmp 21) rfl qa 26 (Bk.uC ra) _ rfl (KA.out W hW).us jd1 rfl (jda ra)) hS ?_
    refine tY 14 hS ?_
    refine tY 15 hS ?_
    refine tY 16 hS ?_
    refine tZ 17 (v := .agg (Bk.uC rb)) rfl (fun W hW => jay 38 (.tmp 25) rfl qb 26 (Bk.uC rb) _ rfl (KB.out W hW).us jd1 rfl (jda rb)) hS ?_
    simp only [Act.put, zT, zO, zS]
    refine tY 18 hS ?_
    refine tY 19 hS ?_
    refine tY 20 hS ?_
    refine tY 21 hS ?_
    refine tY 22 hS ?_
    refine tY 23 hS ?_
    simp only [Act.put, zT, zO, zS]
    refine tZ 24 rfl (by intro W hW; have e0 := (KA.out W hW).hc; have lg := (KA.out W hW).lt; go_simp; (try with_reducible rfl)) hS ?_
    refine tY 25 hS ?_
    refine tY 26 hS ?_
    refine tY 27 hS ?_
    refine tZ 28 rfl (by intro W hW; have e0 := (KB.out W hW).hc; have lg := (KB.out W hW).lt; go_simp; (try with_reducible rfl)) hS ?_
    simp only [Act.put, zT, zO, zS]
    refine rO 29 (fun K hK => ?_)
    go_simp
    with_reducible refine (jg9 AA AB s.h.length t.h.length ca cb s.h t.h _ (KA.out _ hS).hs (KB.out _ hS).hs (by have := LA.out; omega)).mono ?_
    rintro e wv ⟨⟨zz, rfl, hzz⟩, hb⟩
    obtain rfl : zz = true := hzz.2 HH.out
    clear hzz
    replace hS := hS.trans (hb.mono hS.size)
    clear hb
    refine hK.out _ _ hS (fun _ => ?_)
    clear hK K
    refine tY 30 hS ?_
    refine tY 31 hS ?_
    refine tY 32 hS ?_
    refine tY 33 hS ?_
    simp only [Act.put, zT, zO, zS]
    refine rO 34 (fun K hK => ?_)
    go_simp
    with_reducible refine (CS.out _ hS).mono ?_
    rintro e wv ⟨⟨zz, rfl, hzz⟩, hb⟩
    have HZ := zh hzz
    clear hzz
    replace hS := hS.trans (hb.mono hS.size)
    clear hb
    refine hK.out _ _ hS (fun _ => ?_)
    clear hK K
    refine tY 35 hS ?_
    refine tY 36 hS ?_
    simp only [Act.put, zT, zO, zS]
    refine wpAnyH_done (by kernel_rfl) ?_ _
    have D5 := zh hS
    clear hS
    go_wp2_with fail
    go_ret
    exact ⟨⟨_, rfl, by first | exact HZ.out.trans LP2.out.symm | (rw [LP2.out, ← HZ.out]; simp)⟩, D5.out⟩
   ·have HH := zh hh
    have NO : Hid (¬ Bk.Like s t) := fun h => HH.out (LP.out.1 h).2.2.1
    clear hh LP CS
    refine wp_region_held_drew (S := fun X => Below W.heap.size W X) (by kernel_rfl) B0.out.drew (fun hS => ?_)
    refine tY 0 hS ?_
    refine tY 1 hS ?_
    refine tY 2 hS ?_
    refine tZ 3 (v := .agg (Bk.viewC s)) rfl (fun W hW => jay 48 (.tmp 11) rfl qa 4 (Bk.viewC s) _ rfl (KA.out W hW).vw jas rfl (ja7 s)) hS ?_
    refine tY 4 hS ?_
    refine tY 5 hS ?_
    simp only [Act.put, zT, zO, zS]
    refine tY 6 hS ?_
    refine tZ 7 (v := .agg (Bk.viewC t)) rfl (fun W hW => jay 48 (.tmp 15) rfl qb 4 (Bk.viewC t) _ rfl (KB.out W hW).vw jas rfl (ja7 t)) hS ?_
    refine tY 8 hS ?_
    refine tY 9 hS ?_
    refine tY 10 hS ?_
    refine tY 11 hS ?_
    simp only [Act.put, zT, zO, zS]
    refine tY 12 hS ?_
    refine tZ 13 (v := .agg (Bk.uC ra)) rfl (fun W hW => jay 38 (.tmp 21) rfl qa 26 (Bk.uC ra) _ rfl (KA.out W hW).us jd1 rfl (jda ra)) hS ?_
    refine tY 14 hS ?_
    refine tY 15 hS ?_
    refine tY 16 hS ?_
    refine tZ 17 (v := .agg (Bk.uC rb)) rfl (fun W hW => jay 38 (.tmp 25) rfl qb 26 (Bk.uC rb) _ rfl (KB.out W hW).us jd1 rfl (jda rb)) hS ?_
    simp only [Act.put, zT, zO, zS]
    refine tY 18 hS ?_
    refine tY 19 hS ?_
    refine tY 20 hS ?_
    refine tY 21 hS ?_
    refine tY 22 hS ?_
    refine tY 23 hS ?_
    simp only [Act.put, zT, zO, zS]
    refine tZ 24 rfl (by intro W hW; have e0 := (KA.out W hW).hc; have lg := (KA.out W hW).lt; go_simp; (try with_reducible rfl)) hS ?_
    refine tY 25 hS ?_
    refine tY 26 hS ?_
    refine tY 27 hS ?_
    refine tZ 28 rfl (by intro W hW; have e0 := (KB.out W hW).hc; have lg := (KB.out W hW).lt; go_simp; (try with_reducible rfl)) hS ?_
    simp only [Act.put, zT, zO, zS]
    refine rO 29 (fun K hK => ?_)
    go_simp
    with_reducible refine (jg9 AA AB s.h.length t.h.length ca cb s.h t.h _ (KA.out _ hS).hs (KB.out _ hS).hs (by have := LA.out; omega)).mono ?_
    rintro e wv ⟨⟨zz, rfl, hzz⟩, hb⟩
    obtain rfl : zz = false := Bool.eq_false_iff.2 (fun h => HH.out (hzz.1 h))
    clear hzz
    replace hS := hS.trans (hb.mono hS.size)
    clear hb
    refine hK.out _ _ hS (fun _ => ?_)
    clear hK K
    refine tY 30 hS ?_
    refine tY 31 hS ?_
    refine tN 32 hS ?_
    refine tN 33 hS ?_
    refine tN 34 hS ?_
    refine tY 35 hS ?_
    simp only [Act.put, zT, zO, zS]
    refine tY 36 hS ?_
    simp only [Act.put, zT, zO, zS]
    refine wpAnyH_done (by kernel_rfl) ?_ _
    have D5 := zh hS
    clear hS
    go_wp2_with fail
    go_ret
    exact ⟨⟨false, rfl, by simp only [Bool.false_eq_true, false_iff]; exact NO.out⟩, D5.out⟩
open Go.Deep Go.Maps
namespace Bd
def tw (M : Int) (e : Nat) : Ls.St := ⟨M, if e = 0 then [] else [⟨leader, 0, e, 0, true⟩]⟩
theorem put_one (x y : Ls.En) (hx : x.name = leader) (hy : y.name = leader) : Ls.put [x] y = [y] := by
 unfold Ls.put
 rw [Ls.dropK_cons, hy, if_pos hx]
 rfl
theorem find_one (x : Ls.En) (hx : x.name = leader) : Ls.find [x] leader = some x := by rw [Ls.find_cons, if_pos hx]
theorem tw_find (M : Int) (e : Nat) : Ls.find (tw M e).l leader = if e = 0 then none else some ⟨leader, 0, e, 0, true⟩ := by
 unfold tw
 by_cases h : e = 0
 ·rw [if_pos h, if_pos h]; rfl
 ·rw [if_neg h, if_neg h]; exact find_one _ rfl
open Classical in
theorem tw_take (M : Int) (e : Nat) {who now ttl : Int} (hr : Ls.Right leader who now ttl) : Ls.takeE (tw M e) leader who now ttl = 0 ∧ Ls.takeS (tw M e) leader who now ttl = ⟨M, [⟨leader, who, (e : Int) + 1, Ls.late now ttl, false⟩]⟩ := by
 have hf : Ls.Free (tw M e) leader now := fun en he => by
  rw [tw_find] at he
  split at he
  ·cases he
  ·injection he with he; subst he; exact .inl rfl
 have h0 : Ls.takeE (tw M e) leader who now ttl = 0 := by
  unfold Ls.takeE
  rw [if_neg (fun h => h hr), if_neg (fun h => h hf)]
 refine ⟨h0, ?_⟩
 unfold Ls.takeS
 rw [if_pos h0]
 unfold Ls.taken Ls.epochOf
 rw [tw_find]
 unfold tw
 by_cases h : e = 0
 ·subst h; rfl
 ·simp only [if_neg h]
  rw [put_one _ _ rfl rfl]
open Classical in
theorem tw_drop (M : Int) (e : Nat) (t : Int) : Ls.dropE ⟨M, [⟨leader, 0, (e : Int) + 1, t, false⟩]⟩ leader 0 ((e : Int) + 1) = 0 ∧ Ls.dropS ⟨M, [⟨leader, 0, (e : Int) + 1, t, false⟩]⟩ leader 0 ((e : Int) + 1) = tw M (e + 1) := by
 have h0 : Ls.dropE ⟨M, [⟨leader, 0, (e : Int) + 1, t, false⟩]⟩ leader 0 ((e : Int) + 1) = 0 := by
  unfold Ls.dropE
  rw [find_one _ rfl]
  show (if Ls.Other _ _ _ then 8 else if false = true then 10 else 0) = 0
  rw [if_neg (by unfold Ls.Other; simp), if_neg (by simp)]
 refine ⟨h0, ?_⟩
 unfold Ls.dropS
 rw [if_pos h0]
 unfold Ls.droppedS
 rw [find_one _ rfl]
 show (⟨M, Ls.put [_] ⟨leader, 0, (e : Int) + 1, 0, true⟩⟩ : Ls.St) = _
 rw [put_one _ _ rfl rfl]
 unfold tw
 rw [if_neg (by omega)]
 simp
theorem tw_few (M : Int) {e n : Nat} (h1 : e ≤ n) (h2 : 1 ≤ n) : Ls.Few (tw M e) n := by
 unfold tw Ls.Few
 by_cases h : e = 0
 ·simp [h]
 ·simp only [if_neg h, List.mem_singleton, List.length_singleton]
  refine ⟨fun x hx => ?_, h2⟩
  subst hx
  show (e : Int) ≤ n
  omega
theorem right_leader {who now ttl : Int} (h1 : 0 ≤ who ∧ who ≤ 63) (h2 : 0 ≤ now ∧ now ≤ 1099511627776) (h3 : 1 ≤ ttl ∧ ttl ≤ 1048576) : Ls.Right leader who now ttl := ⟨by decide, by decide, h1.1, h1.2, h2, h3.1, h3.2⟩
theorem tw_last {s : Bk.St} (hk : Lok s) {M : Int} {e : Nat} (he : (e : Int) + 1 = s.ep) : Ls.takeS (tw M e) leader s.who (s.till - 1) 1 = tab { s with m := M } := by
 have h1 := hk.t1 (by omega)
 have h2 := hk.ok.till
 have h3 := hk.ok.who
 rw [(tw_take M e (right_leader h3 ⟨by omega, by omega⟩ ⟨by omega, by omega⟩)).2, tab_some (s := { s with m := M }) (show s.ep ≠ 0 by omega)]
 have : Ls.late (s.till - 1) 1 = s.till := by unfold Ls.late; omega
 rw [this, he]
end Bd
theorem lsx_of {W : World} {q : Nat} {cs : Array Value} {ty : TypeId} {mo : Option Nat} {s : Ls.St} (h : LsIs W q cs ty mo s) : LsX W (fun i => i = q ∨ mo = some i) q mo :=
 ⟨.inl rfl, fun m e => .inr e, fun i hi => by
  rcases hi with rfl | e
  ·exact h.cells.2.2.2
  ·subst e; exact MapW.Opt.lt h.map⟩
def jia (s : Bk.St) (m : Int) (W : World) (e : Ending) (w' : World) : Prop :=
 ∃ mo, e = .returned (.agg #[.int .i64 (min (max m 0) 1048576), .map mo]) ∧ LM.Opt w' mo (Ls.zOf (Bd.tab { s with m := min (max m 0) 1048576 }).l) (Bd.tab { s with m := min (max m 0) 1048576 }).l.length ∧ (∀ b, mo = some b → W.heap.size ≤ b) ∧ Below W.heap.size W w'
structure TwAt (w0 W : World) (q : Nat) (M : Int) (mo : Option Nat) (s : Ls.St) : Prop where
 is : LsIs W q #[.int .i64 M, .map mo] 78 mo s
 q0 : w0.heap.size ≤ q
 m0 : ∀ b, mo = some b → w0.heap.size ≤ b
 below : Below w0.heap.size w0 W
theorem TwAt.turn {w0 W : World} {q : Nat} {M : Int} {mo : Option Nat} {s s' : Ls.St} {v : Value} {e : Ending} {w' : World} (h : TwAt w0 W q M mo s) (hp : jfd q #[.int .i64 M, .map mo] 78 mo s' v W e w') : e = .returned v ∧ ∃ mo', TwAt w0 w' q M mo' s' := by
 obtain ⟨mo', rfl, h1, h2, h3⟩ := hp
 refine ⟨rfl, mo', h1, h.q0, fun b hb => ?_, h.below.trans (h2.below h.below.size fun i hi => ?_)⟩
 ·rcases h3 b hb with h4 | h4
  ·exact h.m0 b h4
  ·exact Nat.le_trans h.below.size h4
 ·rcases hi with rfl | hi
  ·exact h.q0
  ·exact h.m0 i hi
theorem TwAt.take {w0 W : World} {q : Nat} {M : Int} {mo : Option Nat} {s : Ls.St} (h : TwAt w0 W q M mo s) (hf : Ls.Few s 2199023255552) (ho now ttl : Int) : Calls Tryz.prog 102 #[.pointer (some ⟨q, 0, none⟩), .string ⟨#[108, 101, 97, 100, 101, 114]⟩, .int .i64 ho, .int .i64 now, .int .i64 ttl] W (fun e w' => ∃ v mo', e = .returned v ∧ TwAt w0 w' q M mo' (Ls.takeS s Bd.leader ho now ttl)) :=
 (jff W _ q _ _ mo s (lsx_of h.is) h.is hf Bd.leader (by decide) ho now ttl).mono fun e w' hp => by
  obtain ⟨h1, mo', h2⟩ := h.turn hp
  exact ⟨_, mo', h1, h2⟩
theorem TwAt.drop {w0 W : World} {q : Nat} {M : Int} {mo : Option Nat} {s : Ls.St} (h : TwAt w0 W q M mo s) (ho ep : Int) : Calls Tryz.prog 149 #[.pointer (some ⟨q, 0, none⟩), .string ⟨#[108, 101, 97, 100, 101, 114]⟩, .int .i64 ho, .int .i64 ep] W (fun e w' => ∃ v mo', e = .returned v ∧ TwAt w0 w' q M mo' (Ls.dropS s Bd.leader ho ep)) :=
 (jji W _ q _ _ mo s (lsx_of h.is) h.is Bd.leader (by decide) ho ep).mono fun e w' hp => by
  obtain ⟨h1, mo', h2⟩ := h.turn hp
  exact ⟨_, mo', h1, h2⟩
theorem jfk : Tryz.prog.underlying 78 = some (.struct (Tryz.prog.fieldsOf 78)) := by kernel_rfl
theorem jf4 (M : Int) (mo : Option Nat) : (Tryz.prog.info? 78).map (·.size) = some (#[Value.int .i64 M, .map mo]).size := by kernel_rfl
theorem jcj {w : World} {ops : Array Oper} {rest : List Oper} {op : Oper} {a : Act} {Q : Exit → Act → World → Prop} {g : Nat} {M : Int} {mo : Option Nat} {cs : Array Value} (hgd : op.guard = none) (x y : Operand) (ho : op.op = .store 78 x y) (hx : a.eval x = .pointer (some ⟨g, 0, none⟩)) (hy : a.eval y = .agg #[.int .i64 M, .map mo]) (hg : w.heap[g]? = some (.cells cs 78 (0, 0))) (hc : cs.size = 2)
  (h : wpList Tryz.prog ops Q rest (a.put op.dst undef) (w.setRow g #[.int .i64 M, .map mo])) : wpList Tryz.prog ops Q (op :: rest) a w :=
 wpList_plain hgd fun _ hK => wp_store_row 78 x y ho g #[.int .i64 M, .map mo] hx hy 78 _ hg (jf4 M mo) hc (by simp [Value.oneCell']) (hK _ _ h)
theorem TwAt.margin {w0 W : World} {q : Nat} {M : Int} {mo : Option Nat} {s : Ls.St} (h : TwAt w0 W q M mo s) : s.margin = M := by
 have := h.is.k0
 simp at this
 exact this.symm
theorem twl_any (s : Bk.St) (hk : Bd.Lok s) (m : Int) (W : World) : Calls Tryz.prog 97 #[.agg (Bk.viewC s), .int .i64 m] W (jia s m W) := by
 have LK := zh hk
 have x1 : Below W.heap.size W (W.alloc (.cells (Bk.viewC s) 48)) := (Below.refl _ _).alloc (Nat.le_refl _) _
 have p1 := heap_alloc_new W (.cells (Bk.viewC s) 48)
 obtain ⟨g, hg⟩ : ∃ g, g = W.heap.size := ⟨_, rfl⟩
 have hs1 : (W.alloc (.cells (Bk.viewC s) 48)).heap.size = g + 1 := by simp [hg]
 obtain ⟨W1, hW1⟩ : ∃ W1, W1 = W.alloc (.cells (Bk.viewC s) 48) := ⟨_, rfl⟩
 rw [← hW1] at x1 p1 hs1
 rw [← hg] at p1
 have x2 : Below W1.heap.size W1 (W1.alloc (.cells #[.int .i64 0, .map none] 78)) := (Below.refl _ _).alloc (Nat.le_refl _) _
 have p2 := heap_alloc_new W1 (.cells #[.int .i64 0, .map none] 78)
 have p1b := jaf p1 x2
 rw [hs1] at p2
 have B2 := zh (x1.trans (x2.mono x1.size))
 obtain ⟨W2, hW2⟩ : ∃ W2, W2 = W1.alloc (.cells #[.int .i64 0, .map none] 78) := ⟨_, rfl⟩
 rw [← hW2] at B2 p1b p2
 have P1 := zh p1b
 have P2 := zh p2
 have EW : Hid ((W.alloc (.cells (Bk.viewC s) 48)).alloc (.cells #[.int .i64 0, .map none] 78) = W2) := by show _ = _; rw [hW2, hW1]
 have EG := zh hg
 clear x1 x2 p1 p1b p2 hs1 hW1 hW2 hg hk
 have VC : Hid (∀ X, Below W2.heap.size W2 X → X.cell? ⟨g, 0, none⟩ = some (.int .i64 s.ep) ∧ X.cell? ⟨g, 1, none⟩ = some (.int .i64 s.who) ∧ X.cell? ⟨g, 2, none⟩ = some (.int .i64 s.till) ∧ g < X.heap.size) := fun X hX => by
  have h := jaf P1.out hX
  exact ⟨by rw [cell_of_row _ g 0 _ _ _ h]; rfl, by rw [cell_of_row _ g 1 _ _ _ h]; rfl, by rw [cell_of_row _ g 2 _ _ _ h]; rfl, (Array.getElem?_eq_some_iff.1 h).1⟩
 have CN := zh (fun X => jgn X m)
 obtain ⟨M, hM⟩ : ∃ M, M = min (max m 0) 1048576 := ⟨_, rfl⟩
 have HM := zh hM
 have LST := zh (fun (e : Nat) (he : (e : Int) + 1 = s.ep) => Bd.tw_last LK.out (M := M) (e := e) he)
 unfold jia
 rw [← hM]
 clear hM
 have EPB := zh LK.out.ok.ep
 have NOZ : Hid (s.ep = 0 → Bd.tab { s with m := M } = Bd.tw M 0) := fun h => by
  unfold Bd.tab Bd.tw
  rw [if_pos (show ({ s with m := M } : Bk.St).ep = 0 from h), if_pos rfl]
 have TB := zh (And.intro LK.out.ok.till LK.out.t1)
 generalize Bd.tab { s with m := M } = tb at *
 go_enter Tryz.func97, Tryz.ntmps97
 go_upto_region 1 with fail
 rw [EW.out, ← EG.out]
 clear EW
 generalize s.who = who at *
 generalize s.till = till at *
 generalize s.ep = ep at *
 have q1 := EPB.out.1
 have q2 := EPB.out.2
 go_upto_region 2 with (go_at_call 37; (with_reducible refine (CN.out _).mono ?_); rintro e w1 ⟨rfl, hl, hb⟩; have T1 : Hid (TwAt W2 w1 W2.heap.size M none (Bd.tw M 0)) := ⟨by have h2 := hl; rw [show (Ls.new m).margin = M from HM.out.symm, show Ls.new m = Bd.tw M 0 from by unfold Ls.new Bd.tw; rw [← HM.out, if_pos rfl]] at h2; exact h2, Nat.le_refl _, fun b hb => (by cases hb), hb⟩; obtain ⟨q, hq⟩ : ∃ q, q = W2.heap.size := ⟨_, rfl⟩; rw [← hq] at T1 ⊢; clear hl hb hq)
 go_wp2_with fail
 go_loopw [6] (fun i wr => ∃ (e : Nat) (mo : Option Nat), ((e : Int) + 1 ≤ ep ∨ e = 0) ∧ i = .int .i64 ((e : Int) + 1) ∧ TwAt W2 wr q M mo (Bd.tw M e)) (fun i _ => ep.toNat + 1 - (intOf i).toNat)
 case atStart => exact ⟨0, none, .inr rfl, rfl, T1.out⟩
 case round =>
  obtain ⟨e, mo, he, rfl, ht⟩ := hrel
  have TA := zh ht
  clear ht
  obtain ⟨v0, v1, v2, vl⟩ := VC.out _ TA.out.below
  have k1 : (0 : Int) ≤ (e : Int) := by omega
  by_cases hlt : (e : Int) + 1 < ep
  ·have HLT := zh hlt
   have CT := zh (TA.out.take (Bd.tw_few M (by omega) (by omega)) 0 0 1)
   rw [(Bd.tw_take M e (Bd.right_leader ⟨by omega, by omega⟩ ⟨by omega, by omega⟩ ⟨by omega, by omega⟩)).2] at CT
   have hw1 : wrap64 ((e : Int) + 1 + 1) = (e : Int) + 1 + 1 := IntWalk.wrap64_in _ ⟨by omega, by omega⟩
   have hw2 : IntKind.i64.wrap ((e : Int) + 1 + 1) = (e : Int) + 1 + 1 := IntWalk.i64_in _ ⟨by omega, by omega⟩
   go_wp2_with (first
    | (go_at_call 102; (with_reducible refine CT.out.mono ?_); rintro en w3 ⟨vv, mo1, rfl, h1⟩; have T3 := zh h1; have CD := zh (h1.drop 0 ((e : Int) + 1)); clear h1 CT)
    | (go_at_call 149; (with_reducible refine CD.out.mono ?_); rintro en w4 ⟨vv4, mo2, rfl, h1⟩; have T4 := zh h1; clear h1 CD T3))
   have h2 := HLT.out
   refine ⟨⟨e + 1, mo2, .inl (by omega), by simp, ?_⟩, by simp [intOf]; omega⟩
   have h3 := T4.out
   rw [(Bd.tw_drop M e _).2] at h3
   exact h3
  ·by_cases h0 : 0 < ep
   ·have HE : Hid ((e : Int) + 1 = ep) := by show _ = _; omega
    have CT := zh (TA.out.take (Bd.tw_few M (by omega) (by omega)) who (till - 1) 1)
    rw [LST.out e HE.out] at CT
    have t1 := TB.out.1
    have t2 := TB.out.2 (by omega)
    have hw1 : wrap64 (till - 1) = till - 1 := IntWalk.wrap64_in _ ⟨by omega, by omega⟩
    have hw2 : IntKind.i64.wrap (till - 1) = till - 1 := IntWalk.i64_in _ ⟨by omega, by omega⟩
    have h5 : ep > 0 := h0
    have h6 : ep ≤ (e : Int) + 1 := by omega
    clear t1 t2
    go_upto_region 9 with (go_at_call 102; (with_reducible refine CT.out.mono ?_); rintro en w3 ⟨vv, mo2, rfl, h1⟩; have T4 := zh h1; clear h1 CT)
    clear v0 v1 v2 vl
    obtain ⟨c0, c1, f1, lq⟩ := T4.out.is.cells
    rw [T4.out.margin] at c0
    have R0 := zh (jaf P2.out T4.out.below)
    go_wp2_with ((with_reducible show zW); refine jcj rfl (.tmp 4) (.tmp 32) rfl rfl rfl R0.out rfl ?_)
    have g2 := (Array.getElem?_eq_some_iff.1 P2.out).1
    have b2 := B2.out.size
    exact bodyPost_ret (v := .agg #[.int .i64 M, .map mo2]) (results_cell_row (P := Tryz.prog) Tryz.results97 _ _ (g + 1) 78 #[.int .i64 M, .map mo2] (0, 0) _ rfl (setRow_heap w3 (g + 1) _ _ _ _ R0.out) jfk rfl (jf4 M mo2)) rfl ⟨mo2, rfl, T4.out.is.map.keep fun b hb => jao _ _ (by have := T4.out.m0 b hb; omega), fun b hb => by have := T4.out.m0 b hb; omega, below_setRow (B2.out.trans (T4.out.below.mono B2.out.size)) (by have := EG.out; omega) _⟩
   ·have h5 : ep ≤ 0 := by omega
    have h6 : ep ≤ (e : Int) + 1 := by omega
    have HZ : Hid (Bd.tw M e = tb) := by
     obtain rfl : e = 0 := by omega
     exact (NOZ.out (by omega)).symm
    have T4 := TA
    rw [HZ.out] at T4
    clear HZ TA
    go_upto_region 9 with fail
    clear v0 v1 v2 vl
    obtain ⟨c0, c1, f1, lq⟩ := T4.out.is.cells
    rw [T4.out.margin] at c0
    have R0 := zh (jaf P2.out T4.out.below)
    go_wp2_with ((with_reducible show zW); refine jcj rfl (.tmp 4) (.tmp 32) rfl rfl rfl R0.out rfl ?_)
    have g2 := (Array.getElem?_eq_some_iff.1 P2.out).1
    have b2 := B2.out.size
    exact bodyPost_ret (v := .agg #[.int .i64 M, .map mo]) (results_cell_row (P := Tryz.prog) Tryz.results97 _ _ (g + 1) 78 #[.int .i64 M, .map mo] (0, 0) _ rfl (setRow_heap wr (g + 1) _ _ _ _ R0.out) jfk rfl (jf4 M mo)) rfl ⟨mo, rfl, T4.out.is.map.keep fun b hb => jao _ _ (by have := T4.out.m0 b hb; omega), fun b hb => by have := T4.out.m0 b hb; omega, below_setRow (B2.out.trans (T4.out.below.mono B2.out.size)) (by have := EG.out; omega) _⟩
def poC (o : Kv.Po) : List Value := [.string o.key, .string o.val, .int .i64 o.rev, .bool o.drop]
theorem jm4 (o : Kv.Po) : (poC o).length = 4 := rfl
theorem poC_one (o : Kv.Po) : ∀ u ∈ poC o, u.oneCell' = true := by intro u hu; simp [poC] at hu; rcases hu with rfl | rfl | rfl | rfl <;> rfl
theorem slp_of {w : World} {A : Option Addr} {n c : Nat} {l : List Kv.Po} (h : SlF poC w A n c l) (hz : ∀ o ∈ l, o.key.size ≤ maxLen ∧ o.val.size ≤ maxLen ∧ jjb o.rev) : SlP w A n c l :=
 ⟨fun j t hj => by
  obtain ⟨b, o, e, hb, hc⟩ := h.at_ jm4 hj
  refine ⟨b, o, poC t, e, hb, rfl, fun i hi => ?_, rfl, hz t (List.mem_of_getElem? hj)⟩
  have hl : i < (poC t).length := hi
  rw [List.getElem?_eq_getElem hl]
  exact hc i _ (List.getElem?_eq_getElem hl), h.len, h.cap, h.max, h.nil⟩
namespace Bd
def mk (l : List Kv.En) (k : ByteArray) : Kv.Po := ⟨k, Kv.valOf l k, 0, false⟩
theorem mk_po {l : List Kv.En} (hr : Kv.Rise l) : ((Kv.keysOf l).map (mk l)).map po = l.map pr := by
 unfold Kv.keysOf
 rw [List.map_map, List.map_map]
 refine List.map_congr_left fun e he => ?_
 show (e.key, Kv.valOf l e.key) = (e.key, e.val)
 unfold Kv.valOf
 rw [Kv.find_mem hr he]
theorem twin_digs {K : Kv.St} {vs : List Bk.Vn} (hd : Digs K vs) (hg : Kv.Good K) : Kv.Good (Kv.doS Kv.St.none ((Kv.keysOf K.l).map (mk K.l))) ∧ Digs (Kv.doS Kv.St.none ((Kv.keysOf K.l).map (mk K.l))) vs ∧ (Kv.doS Kv.St.none ((Kv.keysOf K.l).map (mk K.l))).rev ≤ vs.length := by
 have hl := hd.len
 by_cases h0 : K.l = []
 ·have e : ((Kv.keysOf K.l).map (mk K.l)) = [] := by rw [h0]; rfl
  have hv : vs = [] := List.eq_nil_of_length_eq_zero (by rw [← hl, h0]; rfl)
  rw [e, (Kv.doS_no (by rw [Kv.doE_right (fun h => by have := h.1; simp at this)]; decide)).1, hv]
  exact ⟨Kv.Good.none_, none_digs, Int.le_refl _⟩
 ·have hp : 0 < K.l.length := List.length_pos_iff.2 h0
  have hk : ∀ o ∈ (Kv.keysOf K.l).map (mk K.l), ∃ e ∈ K.l, o = ⟨e.key, e.val, 0, false⟩ := fun o ho => by
   obtain ⟨k, hk, rfl⟩ := List.mem_map.1 ho
   obtain ⟨e, he, rfl⟩ := List.mem_map.1 hk
   refine ⟨e, he, ?_⟩
   unfold mk Kv.valOf
   rw [Kv.find_mem hg.rise he]
  obtain ⟨a1, a2, a3, a4⟩ := puts_new (K := Kv.St.none) (ops := (Kv.keysOf K.l).map (mk K.l)) Kv.Good.none_ (by unfold Kv.keysOf; simpa using hp)
   (fun o ho => by obtain ⟨e, _, rfl⟩ := hk o ho; exact ⟨rfl, rfl⟩)
   (by
    unfold Kv.keysOf
    rw [List.map_map, List.pairwise_map]
    exact hg.rise.imp fun h => Kv.lt_ne h)
   (fun o ho e he => by cases he)
   (fun o ho => by obtain ⟨e, he, rfl⟩ := hk o ho; exact hg.size e he)
   (by unfold Kv.keysOf; simp [Kv.St.none]; exact hg.len)
  refine ⟨a3, ?_, ?_⟩
  ·rw [mk_po hg.rise] at a4
   unfold Digs at hd ⊢
   refine List.Perm.trans a4 ?_
   simpa [Kv.St.none] using hd
  ·rw [a2]
   show (0 : Int) + 1 ≤ _
   omega
end Bd
def jm5 (s : Bk.St) (W : World) (e : Ending) (w' : World) : Prop :=
 ∃ (ko : Option Nat) (K : Kv.St), e = .returned (.agg #[.int .i64 K.rev, .map ko]) ∧ MapO w' ko K.l ∧ Kv.Good K ∧ K.rev ≤ s.vs.length ∧ Bd.Digs K s.vs ∧ (∀ b, ko = some b → W.heap.size ≤ b) ∧ Below W.heap.size W w'
theorem jm6 : Tryz.prog.underlying 83 = some (.struct (Tryz.prog.fieldsOf 83)) := by kernel_rfl
theorem jm7 (r : Int) (mo : Option Nat) : (Tryz.prog.info? 83).map (·.size) = some (#[Value.int .i64 r, .map mo]).size := by kernel_rfl
theorem je3 {w : World} {ops : Array Oper} {rest : List Oper} {op : Oper} {a : Act} {Q : Exit → Act → World → Prop} {g : Nat} {M : Int} {mo : Option Nat} {cs : Array Value} (hgd : op.guard = none) (x y : Operand) (ho : op.op = .store 83 x y) (hx : a.eval x = .pointer (some ⟨g, 0, none⟩)) (hy : a.eval y = .agg #[.int .i64 M, .map mo]) (hg : w.heap[g]? = some (.cells cs 83 (0, 0))) (hc : cs.size = 2)
  (h : wpList Tryz.prog ops Q rest (a.put op.dst undef) (w.setRow g #[.int .i64 M, .map mo])) : wpList Tryz.prog ops Q (op :: rest) a w :=
 wpList_plain hgd fun _ hK => wp_store_row 83 x y ho g #[.int .i64 M, .map mo] hx hy 83 _ hg (jm7 M mo) hc (by simp [Value.oneCell']) (hK _ _ h)
theorem twd_any (q : Nat) (s : Bk.St) (ru : Nat → Bk.Un) (rv : Int) (lo ko : Option Nat) (H : Value) (K : Kv.St) (W : World) (h : BdIs W q s ru rv lo ko H K) : Calls Tryz.prog 98 #[.pointer (some ⟨q, 0, none⟩)] W (jm5 s W) := by
 have TD := zh (Bd.twin_digs h.dg h.kg)
 have GK := zh h.kg
 have HL : Hid ((Kv.keysOf K.l).length ≤ 64) := by show _ ≤ _; unfold Kv.keysOf; rw [List.length_map]; exact h.kg.len
 have x1 : Below W.heap.size W (W.alloc (.cells #[.int .i64 0, .map none] 83)) := (Below.refl _ _).alloc (Nat.le_refl _) _
 have P1 := zh (heap_alloc_new W (.cells #[.int .i64 0, .map none] 83))
 have B1 := zh x1
 have H1 := zh (h.on x1)
 have lq := (h.on x1).lt.1
 clear h x1
 go_enter Tryz.func98, Tryz.ntmps98
 go_upto_region 1 with fail
 obtain ⟨r, hr⟩ : ∃ r, r = W.heap.size := ⟨_, rfl⟩
 have HR := zh hr
 rw [← hr] at P1 ⊢
 clear hr
 generalize W.alloc (.cells #[.int .i64 0, .map none] 83) = w1 at *
 have CK := zh (jfg w1 _ ko K H1.out.kvIs.ask)
 unfold KTx at CK
 have KM : Hid (∀ k ∈ Kv.keysOf K.l, k.size ≤ 64 ∧ (Kv.valOf K.l k).size ≤ 64) := fun k hk => by
  obtain ⟨e, he, rfl⟩ := List.mem_map.1 hk
  unfold Kv.valOf
  rw [Kv.find_mem GK.out.rise he]
  exact (GK.out.size e he).2
 obtain ⟨mk, hmk⟩ : ∃ mk, mk = Bd.mk K.l := ⟨_, rfl⟩
 have MK : Hid (∀ k, mk k = ⟨k, Kv.valOf K.l k, 0, false⟩) := fun k => by rw [hmk]; rfl
 rw [← hmk] at TD
 clear hmk
 have CG : Hid (∀ X, Below w1.heap.size w1 X → ∀ k ∈ Kv.keysOf K.l, Calls Tryz.prog 39 #[.pointer (some ⟨q, 2, none⟩), .string k] X (KGet K k X)) := fun X hX k hk => jeo X _ ko K (H1.out.kvIs.ask.on hX) k (by have := (KM.out k hk).1; unfold maxLen; omega)
 unfold KGet at CG
 generalize Kv.keysOf K.l = ks at *
 go_upto_region 2 with fail
 generalize hv0 : Value.slice none 0 0 = v0
 have HV := zh hv0
 clear hv0
 go_wp2_with (go_at_call 41; (with_reducible refine CK.out.mono ?_); rintro e w2 hp; obtain ⟨v1, rfl, ho, hb⟩ := hp; obtain ⟨A9, c9, rfl, s9⟩ := (jhy.any (w1 := w2) ho).slr ETx.on (Below.refl _ _); have SK := zh s9; have B2 := zh hb; clear ho hb s9)
 go_loopw [3, 14] (fun v i wr => ∃ j : Nat, j ≤ ks.length ∧ i = .int .i64 j ∧ OwF poC 4 158 wr w2.heap.size v ((ks.take j).map mk) ∧ Below w2.heap.size w2 wr) (fun v i wr => ks.length - (intOf i).toNat)
 case atStart => exact ⟨0, Nat.zero_le _, rfl, by rw [← HV.out]; exact OwF.none_ _ _ _, Below.refl _ _⟩
 case round =>
  obtain ⟨j, hj, rfl, ho, hbr⟩ := hrel
  have O := zh ho
  have B := zh hbr
  clear ho hbr
  have i1 : (0 : Int) ≤ (j : Int) := by omega
  by_cases hlt : j < ks.length
  ·have hx : ks[j]? = some ks[j] := List.getElem?_eq_getElem hlt
   have NX : Hid (((ks.take (j + 1)).map mk) = (ks.take j).map mk ++ [mk ks[j]]) := by show _ = _; rw [List.take_add_one, hx, List.map_append]; rfl
   obtain ⟨b, o, rfl⟩ := (SK.out).addr (by omega)
   have S2 := zh (SlR.on ETx.on SK.out B.out)
   obtain ⟨hbl, cs, hcl, hce, hE⟩ := S2.out.cell hlt
   have hE2 : cs = [.string ks[j]] := hE
   subst hE2
   have e0 := hce 0 (by omega)
   simp only [Nat.mul_one, Nat.add_zero, List.getElem?_cons_zero] at e0
   have CA := zh (CG.out wr (B2.out.trans (B.out.mono B2.out.size)) ks[j] (List.getElem_mem hlt))
   have MX := zh (MK.out ks[j])
   generalize ks[j] = x at *
   generalize Kv.valOf K.l x = vx at *
   have q1 : ((j : Nat) : Int) < (ks.length : Nat) := by omega
   have q2 : ((ks.length : Nat) : Int) ≤ 64 := by have := HL.out; omega
   have LT := zh hlt
   clear hx hce hE hcl hlt
   go_upto_region 6 with (go_at_call 39; (with_reducible refine CA.out.mono ?_); rintro e w3 ⟨rfl, hb⟩; have B3 := zh hb; clear hb CA)
   have O2 := zh (O.out.below B3.out)
   have B4 := zh (B.out.trans (B3.out.mono B.out.size))
   clear e0
   go_wp2_with (first
    | ((with_reducible show zB 30); refine jag Tryz.underlying159 jij (by omega) (by omega) rfl (.tmp 29) rfl #[.string x, .string vx, .int .i64 0, .bool false] rfl rfl ?_)
    | (at_builtin; refine jad jm4 poC_one Tryz.underlying159 jij rfl (by omega) rfl (.tmp 26) (.tmp 30) rfl w2.heap.size _ _ rfl O2.out ⟨x, vx, 0, false⟩ rfl (by have := HL.out; have := LT.out; rw [List.length_map, List.length_take]; unfold maxLen; omega) (by have := HL.out; have := LT.out; rw [List.length_map, List.length_take]; omega) B4.out.size ?_; intro v9 w9 ho9 hb9 _ _; have O9 := zh ho9; have B9 := zh (B4.out.trans hb9); clear ho9 hb9))
   have hq := LT.out
   have hq2 := HL.out
   refine ⟨⟨j + 1, by omega, by go_num, ?_, B9.out⟩, by simp [intOf]; omega⟩
   rw [NX.out, MX.out]
   exact O9.out
  ·have q1 : ((ks.length : Nat) : Int) ≤ (j : Nat) := by omega
   obtain rfl : j = ks.length := by omega
   have O1 := O.out
   rw [List.take_length] at O1
   have O2 := zh O1
   clear O1 O hlt
   obtain ⟨AF, cF, rfl⟩ := O2.out.form
   have LE : Hid ((ks.map mk).length = ks.length) := List.length_map _
   rw [LE.out] at O2 ⊢
   have OZ : Hid (∀ o ∈ ks.map mk, o.key.size ≤ maxLen ∧ o.val.size ≤ maxLen ∧ jjb o.rev) := fun o ho => by
    obtain ⟨k, hk, rfl⟩ := List.mem_map.1 ho
    rw [MK.out k]
    have := KM.out k hk
    unfold maxLen
    exact ⟨by show k.size ≤ _; omega, by show (Kv.valOf K.l k).size ≤ _; omega, by show _ ≤ (0 : Int) ∧ (0 : Int) ≤ _; omega⟩
   go_upto_region 9 with (go_at_call 150; (with_reducible refine (jk3 _).mono ?_); rintro e w5 ⟨rfl, hk, hb⟩; obtain ⟨qs, hqs⟩ : ∃ qs, qs = wr.heap.size := ⟨_, rfl⟩; rw [← hqs] at hk ⊢; have K5 := zh hk; have O5 := zh (O2.out.below hb); have B5 := zh (B2.out.trans ((B.out.trans (hb.mono B.out.size)).mono B2.out.size)); have QG : Hid (w1.heap.size ≤ qs) := (by show _ ≤ _; rw [hqs]; exact Nat.le_trans B2.out.size B.out.size); clear hk hb hqs)
   go_upto_region 10 with (go_at_call 106; (with_reducible refine (jik _ qs 0 _ _ none Kv.St.none _ cF AF _ K5.out (by decide) (slp_of O5.out.sl OZ.out) (by rw [LE.out]; have := HL.out; omega)).mono ?_); rintro e w6 hp; obtain ⟨mo, rfl, d1, d2, d3⟩ := hp; have D6 := zh d1; have B6 := zh (B5.out.trans (d2.below B5.out.size (fun i hi => by rcases hi with rfl | hi; exact QG.out; cases hi))); have M6 : Hid (∀ b, mo = some b → w1.heap.size ≤ b) := fun b hb => by { rcases d3 b hb with h | h; cases h; exact Nat.le_trans B5.out.size h }; clear d1 d2 d3)
   obtain ⟨Q0, Q1, Q2⟩ : w6.cell? ⟨qs, 0, none⟩ = some (.int .i64 (Kv.doS Kv.St.none (ks.map mk)).rev) ∧ w6.cell? ⟨qs, 1, none⟩ = some (.map mo) ∧ qs < w6.heap.size := by
    have h := D6.out
    exact ⟨by rw [cell_of_row _ qs 0 _ _ _ h.row]; rfl, by rw [cell_of_row _ qs 1 _ _ _ h.row]; rfl, (Array.getElem?_eq_some_iff.1 h.row).1⟩
   obtain ⟨K9, hK9⟩ : ∃ K9, K9 = Kv.doS Kv.St.none (ks.map mk) := ⟨_, rfl⟩
   rw [← hK9] at TD D6 Q0
   clear hK9
   have R0 := zh (jaf P1.out B6.out)
   go_wp2_with ((with_reducible show zW); refine je3 rfl (.tmp 2) (.tmp 39) rfl rfl rfl R0.out rfl ?_)
   have g2 := (Array.getElem?_eq_some_iff.1 P1.out).1
   exact bodyPost_ret (v := .agg #[.int .i64 K9.rev, .map mo]) (results_cell_row (P := Tryz.prog) Tryz.results98 _ _ r 83 #[.int .i64 K9.rev, .map mo] (0, 0) _ rfl (setRow_heap w6 r _ _ _ _ R0.out) jm6 rfl (jm7 K9.rev mo)) rfl ⟨mo, K9, rfl, D6.out.map.keep fun b hb => jao _ _ (by have := M6.out b hb; omega), TD.out.1, TD.out.2.2, TD.out.2.1, fun b hb => by have := M6.out b hb; have := B1.out.size; omega, below_setRow (B1.out.trans (B6.out.mono B1.out.size)) (by have := HR.out; omega) _⟩
end Go.Proofs.YtnacjhnfkkddcaaGreatDoor
