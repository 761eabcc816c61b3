import Derived.Test.YtnacjhnfkkddcaaGreatDoorSe29
import Derived.Test.YtnacjhnfkkddcaaGreatDoorRows
import Derived.Test.YtnacjhnfkkddcaaGreatDoorTie
import Derived.Test.YtnacjhnfkkddcaaGreatDoorCards
import Derived.WalkKit
import Derived.ProofKit
import Derived.OpenShut
import Derived.ShutString
import Derived.ChangeOld
import Derived.Below
import Derived.LaidMore
import Derived.Lay
import Derived.SevenTiedAt
import Derived.Deep.Matrix
namespace Go.Proofs.YtnacjhnfkkddcaaGreatDoor
open Go.RowKit
set_option linter.unusedSimpArgs false
set_option linter.unusedVariables false
open Classical in
theorem rec_neq_dec (a b : Rc.R) (W : World) : (binOp .neq 53 (.agg (Rc.cells a)) (.agg (Rc.cells b))).run Tryz.prog W = .ok (.bool (!decide (a = b))) W := by
 have h := rec_neq a b W
 unfold Rc.val at h
 have e : Rc.same a b = decide (a = b) := by rw [Bool.eq_iff_iff, Rc.same_iff, decide_eq_true_iff]
 rw [h, e]
/-- Whether two lists are the same, as a Bool that Same answers. -/
def SameAns (p : Prop) (w : World) (e : Ending) (w' : World) : Prop := (∃ x : Bool, e = .returned (.bool x) ∧ (x = true ↔ p)) ∧ Below w.heap.size w w'
theorem list_same {T : Type} {a b : List T} (hl : a.length = b.length) (h : ∀ k, k < a.length → a[k]? = b[k]?) : a = b := by
 refine List.ext_getElem? fun k => ?_
 rcases Nat.lt_or_ge k a.length with h1 | h1
 ·exact h k h1
 ·rw [List.getElem?_eq_none h1, List.getElem?_eq_none (by omega)]
set_option maxRecDepth 100000 in
set_option maxHeartbeats 3200000 in
theorem rbsame_any (A1 A2 : Option Addr) (n m c1 c2 : Nat) (a b : List Rc.R) (w : World) (h1 : SlF Bk.rcC w A1 n c1 a) (h2 : SlF Bk.rcC w A2 m c2 b) (hn : n ≤ 100000) : Calls Tryz.prog 17 #[.slice A1 n c1, .slice A2 m c2] w (SameAns (a = b) w) := by
 have S1 := Lib.hid h1
 have S2 := Lib.hid h2
 have L1 := Lib.hid h1.len
 have L2 := Lib.hid h2.len
 have hc1 := h1.cap
 have hc2 := h2.cap
 clear h1 h2
 by_cases hnm : n = m
 case neg =>
  have q0 : ((n : Int) != (m : Int)) = true := by rw [bne_iff_ne]; omega
  go_enter Tryz.func17, Tryz.ntmps17
  go_wp2_with fail
  go_ret
  exact ⟨⟨false, rfl, by simp; rintro rfl; exact hnm (L1.out.trans L2.out.symm)⟩, Below.refl _ _⟩
 case pos =>
  subst hnm
  go_enter Tryz.func17, Tryz.ntmps17
  go_wp2_with fail
  go_loopw [5] (fun i wr => ∃ j : Nat, j ≤ n ∧ i = .int .i64 j ∧ (∀ k, k < j → a[k]? = b[k]?) ∧ Below w.heap.size w wr) (fun i _ => n - (intOf i).toNat)
  case atStart => exact ⟨0, by omega, rfl, fun k hk => by omega, Below.refl _ _⟩
  case round =>
   obtain ⟨j, hj, rfl, hk, hbr⟩ := hrel
   have HK := Lib.hid hk
   have B := Lib.hid hbr
   clear hk hbr
   by_cases hlt : j < n
   ·have hx : a[j]? = some (a[j]'(by have := L1.out; omega)) := List.getElem?_eq_getElem _
    have hy : b[j]? = some (b[j]'(by have := L2.out; omega)) := List.getElem?_eq_getElem _
    generalize a[j]'(by have := L1.out; omega) = x at hx
    generalize b[j]'(by have := L2.out; omega) = y at hy
    obtain ⟨b1, o1, rfl, hl1, hr1⟩ := rc_range S1.out hx
    obtain ⟨b2, o2, rfl, hl2, hr2⟩ := rc_range S2.out hy
    have EX := Lib.hid hx
    have EY := Lib.hid hy
    have R1 := Lib.hid hr1
    have R2 := Lib.hid hr2
    have H1 := Lib.hid hl1
    have H2 := Lib.hid hl2
    have i1 : (0 : Int) ≤ (j : Int) := by omega
    have i2 : (j : Int) < (n : Int) := by omega
    have hgd := rec_guard
    obtain ⟨q, hq⟩ : ∃ q : Bool, q = true ↔ x ≠ y := by
     classical exact ⟨decide (x ≠ y), decide_eq_true_iff⟩
    have hne : ∀ W, (binOp .neq 53 (.agg (Rc.cells x)) (.agg (Rc.cells y))).run Tryz.prog W = .ok (.bool q) W := fun W => by
     classical
     rw [rec_neq_dec, show (!decide (x = y)) = q from by rw [Bool.eq_iff_iff, hq]; simp]
    have HQ := Lib.hid hq
    clear hx hy hr1 hr2 hl1 hl2 hq
    go_upto_region 6 with fail
    refine wp_region_held_drew (S := fun W => Below w.heap.size w W) (by kernel_rfl) B.out.drew (fun hS => ?_)
    refine tkYes 0 (v := ?_) rfl (by kernel_rfl) (fun _ _ _ h => h) rfl ?_ hS ?_
    rotate_left
    ·intro W hW; go_simp; (try with_reducible rfl)
    simp only [Act.put, zT, zO, zS]
    refine tkYes 1 (v := ?_) rfl (by kernel_rfl) (fun _ _ _ h => h) rfl ?_ hS ?_
    rotate_left
    ·intro W hW; go_simp; (try with_reducible rfl)
    simp only [Act.put, zT, zO, zS]
    refine tkYes 2 (v := ?_) rfl (by kernel_rfl) (fun _ _ _ h => h) rfl ?_ hS ?_
    rotate_left
    ·intro W hW; go_simp; (try with_reducible rfl)
    simp only [Act.put, zT, zO, zS]
    refine tkYes 3 (v := .agg (Rc.cells x)) rfl (by kernel_rfl) (fun _ _ _ h => h) rfl (fun W hW => take_rcm (.tmp 19) rfl b1 (o1 + j * 18) x (by simp [Act.eval, go_sem]) (range_on R1.out (hW.block b1 H1.out))) hS ?_
    simp only [Act.put, zT, zO, zS]
    refine tkYes 4 (v := ?_) rfl (by kernel_rfl) (fun _ _ _ h => h) rfl ?_ hS ?_
    rotate_left
    ·intro W hW; go_simp; (try with_reducible rfl)
    simp only [Act.put, zT, zO, zS]
    refine tkYes 5 (v := ?_) rfl (by kernel_rfl) (fun _ _ _ h => h) rfl ?_ hS ?_
    rotate_left
    ·intro W hW; go_simp; (try with_reducible rfl)
    simp only [Act.put, zT, zO, zS]
    refine tkYes 6 (v := ?_) rfl (by kernel_rfl) (fun _ _ _ h => h) rfl ?_ hS ?_
    rotate_left
    ·intro W hW; go_simp; (try with_reducible rfl)
    simp only [Act.put, zT, zO, zS]
    refine tkYes 7 (v := .agg (Rc.cells y)) rfl (by kernel_rfl) (fun _ _ _ h => h) rfl (fun W hW => take_rcm (.tmp 23) rfl b2 (o2 + j * 18) y (by simp [Act.eval, go_sem]) (range_on R2.out (hW.block b2 H2.out))) hS ?_
    simp only [Act.put, zT, zO, zS]
    refine tkYes 8 (v := ?_) rfl (by kernel_rfl) (fun _ _ _ h => h) rfl ?_ hS ?_
    rotate_left
    ·intro W hW; go_simp; (try with_reducible rfl)
    simp only [Act.put, zT, zO, zS]
    refine wpAnyH_done (by kernel_rfl) ?_ _
    cases q with
    | true =>
     have HN : Hid (x ≠ y) := HQ.out.1 rfl
     go_wp2_with fail
     go_ret
     refine ⟨⟨false, rfl, ?_⟩, hS⟩
     simp only [Bool.false_eq_true, false_iff]
     intro e
     have e2 := EX.out
     rw [e, EY.out] at e2
     exact HN.out (Option.some.inj e2).symm
    | false =>
     have HE : Hid (x = y) := by
      show x = y
      classical
      exact Decidable.byContradiction fun h => by have := HQ.out.2 h; cases this
     go_wp2_with fail
     refine ⟨⟨j + 1, by omega, by go_num, fun k hk => ?_, hS⟩, by simp [intOf]; omega⟩
     rcases Nat.lt_or_ge k j with h | h
     ·exact HK.out k h
     ·rw [show k = j by omega, EX.out, EY.out, HE.out]
   ·obtain rfl : j = n := by omega
    go_wp2_with fail
    go_ret
    exact ⟨⟨true, rfl, by simp; exact list_same (by rw [← L1.out, ← L2.out]) fun k hk => HK.out k (by rw [L1.out]; exact hk)⟩, B.out⟩
end Go.Proofs.YtnacjhnfkkddcaaGreatDoor
namespace Go.Proofs.YtnacjhnfkkddcaaGreatDoor
open Go.RowKit
set_option maxRecDepth 100000
set_option linter.unusedSimpArgs false
set_option linter.unusedVariables false
/-- A row of the law's own grows beside the book. -/
theorem bp_push {w0 W W' : World} {q : Nat} {s : Bk.St} {v v2 : Value} {l2 : List Rc.R} (h : BP w0 (fun b => v.ownBlock = some b) q s W) (hg : W.grownBy W' v.ownBlock) (ho : OwF Bk.rcC 18 53 W' w0.heap.size v2 l2) (hv : v2.ownBlock = v.ownBlock ∨ ∃ k, v2.ownBlock = some k ∧ W.heap.size ≤ k) (hl : ∀ k, v.ownBlock = some k → w0.heap.size ≤ k) : BP w0 (fun b => v2.ownBlock = some b) q s W' := by
 obtain ⟨X, h1, h2, h3, h4⟩ := h
 refine ⟨X, bdp_keep h1 hg.size fun i hi => hg.block i (bdp_lt h1 i hi) fun e => (h3 i e.symm).1 hi, h2, fun b hb => ⟨fun hx => ?_, (ho.lt b hb).2⟩, h4.grown hg h4.size hl⟩
 rcases hv with e | ⟨k, e, hk⟩
 ·exact (h3 b (e ▸ hb)).1 hx
 ·rw [e] at hb
  injection hb with hb
  subst hb
  have := bdp_lt h1 _ hx
  omega
theorem told_len (s : Bk.St) (l : List Rc.R) : (Bk.told s l).length ≤ l.length := by
 induction l generalizing s with
 | nil => exact Nat.le_refl _
 | cons r l ih =>
  have := ih (Bk.app s r)
  unfold Bk.told
  split <;> simp <;> omega
set_option maxHeartbeats 6400000 in
theorem bookhistory_walk (m : Int) (A : Option Addr) (k c : Nat) (l : List Rc.R) (hin : ∀ r ∈ l, Rc.In r) (W : World) (hs : SlF Bk.rcC W A k c l) (ht : BT W) : Calls Tryz.prog 8 #[.int .i64 m, .slice A k c] W (BRet (.bool true) W) := by
 have T0 := Lib.hid ht
 have S0 := Lib.hid hs
 have CLV := Lib.hid (lives_any W ht)
 have CSH : Hid (∀ w, SlF Bk.rcC w A k c l → Calls Tryz.prog 12 #[.slice A k c, .int .i64 100] w (SomeRecs w 100)) := fun w h => bkshort_any A k c 100 l hin w h (by omega)
 have CON : Hid (∀ w A k c l, SlF Bk.rcC w A k c l → (∀ r ∈ l, Rc.In r) → k ≤ 1000 → Calls Tryz.prog 13 #[.int .i64 m, .slice A k c] w (SomeRecs w k)) := fun w A k c l h1 h2 h3 => bkon_any m A k c l h2 w h1 h3
 have CNW := Lib.hid (fun w => bp_new w m)
 clear ht hs hin
 go_enter Tryz.func8, Tryz.ntmps8
 go_upto_region 5 with (first
  | (go_at_call 11; (with_reducible refine CLV.out.mono ?_); rintro e w1 ⟨rfl, hb⟩; have B1 := Lib.hid hb; have S1 := Lib.hid (S0.out.on hb); clear hb)
  | (go_at_call 12; (with_reducible refine (CSH.out _ S1.out).mono ?_); rintro e w2 ⟨A2, c2, l2, rfl, h1, h2, h3, h4⟩; have S2 := Lib.hid h1; have I2 := Lib.hid h2; have N2 := Lib.hid h3; have B2 := Lib.hid (B1.out.trans (h4.mono B1.out.size)); clear h1 h2 h3 h4)
  | (go_at_call 13; (with_reducible refine (CON.out _ _ _ _ _ S2.out I2.out (by have := N2.out; omega)).mono ?_); rintro e w3 ⟨A3, c3, l3, rfl, h1, h2, h3, h4⟩; have S3 := Lib.hid h1; have I3 := Lib.hid h2; have N3 := Lib.hid (Nat.le_trans h3 N2.out); have B3 := Lib.hid (B2.out.trans (h4.mono B2.out.size)); clear h1 h2 h3 h4)
  | (go_at_call 20; (with_reducible refine (CNW.out _).mono ?_); rintro e w4 ⟨q, rfl, hd⟩; have D4 := Lib.hid hd; clear hd))
 clear S0 S1 S2 I2 N2 B1 B2 CLV CSH CON CNW
 have T3 := Lib.hid (T0.out.on B3.out)
 clear T0
 have hcap := S3.out.cap
 have n60 : ((l3.length : Nat) : Int) ≤ 100 := by have := N3.out; omega
 go_upto_region 6 with fail
 generalize hv0 : Value.slice none 0 0 = v0
 have HV := Lib.hid hv0
 clear hv0
 go_wp2_with fail
 go_loopw [6, 7] (fun v i wr => ∃ j : Nat, j ≤ l3.length ∧ i = .int .i64 j ∧ BP w3 (fun b => v.ownBlock = some b) q (Bk.run (Bk.new m) (l3.take j)) wr ∧ OwF Bk.rcC 18 53 wr w3.heap.size v (Bk.told (Bk.new m) (l3.take j))) (fun v i _ => l3.length - (intOf i).toNat)
 case atStart => exact ⟨0, Nat.zero_le _, rfl, bp_less D4.out (fun b hb => by rw [← HV.out] at hb; cases hb), HV.out ▸ OwF.none_ _ _ _⟩
 case round =>
  clear D4
  obtain ⟨j, hj, rfl, hd, ho⟩ := hrel
  have D := Lib.hid hd
  have O := Lib.hid ho
  clear hd ho
  have i1 : (0 : Int) ≤ (j : Int) := by omega
  by_cases hlt : j < l3.length
  ·have hx : l3[j]? = some (l3[j]'hlt) := List.getElem?_eq_getElem _
   have HT := Lib.hid (Bk.take_run (Bk.new m) l3 (k := j) hlt).1
   have HH := Lib.hid (Bk.history_is m l3 (j + 1) hlt)
   have HO : Hid (Bk.told (Bk.new m) (l3.take (j + 1)) = Bk.told (Bk.new m) (l3.take j) ++ if Bk.chk (Bk.run (Bk.new m) (l3.take j)) (l3[j]'hlt) = 0 ∧ ((l3[j]'hlt).kind = 3 ∨ (l3[j]'hlt).kind = 4 ∨ (l3[j]'hlt).kind = 7) then [l3[j]'hlt] else []) := by
    show _ = _
    rw [List.take_succ_eq_append_getElem hlt, Bk.told_snoc]
   have LO := Lib.hid (told_len (Bk.new m) (l3.take j))
   have LO2 := Lib.hid (told_len (Bk.new m) (l3.take (j + 1)))
   rw [List.length_take] at LO LO2
   generalize l3[j]'hlt = r at hx HT HO
   have HR : Hid (Rc.In r) := I3.out r (List.mem_of_getElem? hx)
   obtain ⟨b, o, rfl, hbl, hrg⟩ := rc_range S3.out hx
   have RG := Lib.hid hrg
   have HB := Lib.hid hbl
   have HLT := Lib.hid hlt
   have i2 : (j : Int) < (l3.length : Nat) := by omega
   clear hx hrg hbl hlt
   generalize Bk.run (Bk.new m) (l3.take j) = s at *
   generalize Bk.told (Bk.new m) (l3.take j) = own at *
   generalize hw9 : Bk.told (Bk.new m) (l3.take (j + 1)) = own2 at *
   have HW2 := Lib.hid hw9
   clear hw9
   rw [HT.out] at HH
   have CP := Lib.hid (fun F w (h : BP w3 F q s w) => bp_apply h (T3.out.on (bp_below h)) HR.out)
   obtain ⟨s2, hs2⟩ : ∃ s2, s2 = Bk.app s r := ⟨_, rfl⟩
   obtain ⟨z, hz⟩ : ∃ z, z = Bk.chk s r := ⟨_, rfl⟩
   rw [← hs2, ← hz] at CP
   rw [← hs2] at HT HH
   rw [← hz] at HO
   clear hs2 hz
   have RG5 := Lib.hid (range_on RG.out ((bp_below D.out).block b HB.out))
   by_cases hc : z = 0
   ·have q2 : (z == 0) = true := by simp [hc]
    by_cases k3 : r.kind = 3
    ·have q3 : (r.kind == 3) = true := by simp [k3]
     have HO2 := Lib.hid (HO.out.trans (by rw [if_pos ⟨hc, .inl k3⟩]))
     clear hc k3 HO
     go_upto_region 10 with (first
      | ((with_reducible show wpList _ _ _ ({ dst := some 26, op := .load _ _, type := _, pos := _, after := _, guard := _ } :: _) _ _); refine wpList_load_rcm rfl (.tmp 25) rfl b (o + j * 18) (by simp [Act.eval, go_sem]) r RG5.out ?_)
      | (go_at_call 22; (with_reducible refine (CP.out _ _ D.out).mono ?_); rintro e w7 hp; obtain ⟨rfl, hd2, hkk⟩ := hp; have D3 := Lib.hid hd2; have O3 := Lib.hid (O.out.keep hkk); have RG7 := Lib.hid (range_on RG.out ((bp_below D3.out).block b HB.out)); have e0 := RG7.out 0 _ rfl; rw [Nat.add_zero] at e0; have lg := Nat.lt_of_lt_of_le HB.out (bp_below D3.out).size; clear hd2 hkk D O RG5))
     clear e0 lg
     go_upto_region 11 with (first
      | ((with_reducible show wpList _ _ _ ({ dst := some 57, op := .load _ _, type := _, pos := _, after := _, guard := _ } :: _) _ _); refine wpList_load_rcm rfl (.tmp 56) rfl b (o + j * 18) (by simp [Act.eval, go_sem]) r RG7.out ?_)
      | ((with_reducible show wpList _ _ _ ({ dst := some 58, op := .buildSlice _ _ _, type := _, pos := _, after := _, guard := _ } :: _) _ _); refine wpList_build_one Tryz.underlying22 rc_info (by omega) (by omega) rfl (.tmp 57) rfl (Rc.cells r) rfl rfl ?_)
      | (at_builtin; refine wpList_append_one Bk.rcC_len Bk.rcC_one Tryz.underlying22 rc_info rfl (by omega) rfl (.tmp 53) (.tmp 58) rfl w3.heap.size _ own rfl O3.out r rfl (by have := LO.out; have := N3.out; unfold maxLen; omega) (by have := LO.out; have := N3.out; omega) (bp_below D3.out).size ?_; intro v9 w9 ho9 hb9 hg9 hv9; have O4 := Lib.hid ho9; have D4 := Lib.hid (bp_push D3.out hg9 ho9 hv9 (fun k e => (O3.out.lt k e).1)); clear ho9 hb9 hg9 hv9 D3 O3 RG7))
     rw [← HO2.out] at O4
     obtain ⟨AF, cF, rfl⟩ := O4.out.form
     obtain ⟨N, hN⟩ : ∃ N, N = own2.length := ⟨_, rfl⟩
     obtain ⟨k9, hk9⟩ : ∃ k, k = N - 24 := ⟨_, rfl⟩
     have hN100 : (N : Int) ≤ 100 := by have := LO2.out; have := N3.out; omega
     have hw1 : wrap64 ((N : Int) - 24) = (N : Int) - 24 := IntWalk.wrap64_in _ ⟨by omega, by omega⟩
     have hw2 : IntKind.i64.wrap ((N : Int) - 24) = (N : Int) - 24 := IntWalk.i64_in _ ⟨by omega, by omega⟩
     have hmx : max ((N : Int) - 24) 0 = (k9 : Int) := by omega
     obtain ⟨A5, c5, hA5, hsl⟩ : ∃ A5 c5, (A5 = (if cF = k9 then AF else AF.map fun x => x.add (k9 * 18)) ∧ c5 = cF - k9) ∧ ∀ W, (Instr.slice 22 (.slice AF N cF) (some (.int .i64 (k9 : Int))) none none).run Tryz.prog W = .ok (.slice A5 (N - k9) c5) W := ⟨_, _, ⟨rfl, rfl⟩, rccut_run AF N cF k9 (by omega)⟩
     have HL5 : Hid (own2.drop k9 = s2.h) := by show _ = _; rw [HH.out, hk9, hN]; rfl
     have KN : Hid (k9 ≤ N) := by show _ ≤ _; omega
     have HN := Lib.hid hN
     rw [← hN]
     clear hk9 hN
     have DR : Hid (∀ W, OwF Bk.rcC 18 53 W w3.heap.size (.slice AF own2.length cF) own2 → SlF Bk.rcC W A5 (N - k9) c5 s2.h) := fun W h => by
      rw [hA5.1, hA5.2, ← HL5.out, HN.out]
      exact h.sl.drop Bk.rcC_len (HN.out ▸ KN.out) (addr_add (k9 * 18))
     clear hA5
     refine wp_region_held_drew (S := fun W => BP w3 (fun b => (Value.slice AF own2.length cF).ownBlock = some b) q s2 W ∧ OwF Bk.rcC 18 53 W w3.heap.size (.slice AF own2.length cF) own2) (by kernel_rfl) ⟨bp_on D4.out (Below.refl _ _).drew, O4.out.below (Below.refl _ _).drew⟩ (fun hS => ?_)
     refine tkYes 0 (v := ?_) rfl (by kernel_rfl) (fun _ _ _ h => h) rfl ?_ hS ?_
     rotate_left
     ·intro W hW; go_simp; (try with_reducible rfl)
     simp only [Act.put, zT, zO, zS]
     refine tkYes 2 (v := ?_) rfl (by kernel_rfl) (fun _ _ _ h => h) rfl ?_ hS ?_
     rotate_left
     ·intro W hW; go_simp; (try with_reducible rfl)
     simp only [Act.put, zT, zO, zS]
     refine tkYes 3 (v := ?_) rfl (by kernel_rfl) (fun _ _ _ h => h) rfl ?_ hS ?_
     rotate_left
     ·intro W hW; go_simp; (try with_reducible rfl)
     simp only [Act.put, zT, zO, zS]
     refine tkYes 4 (v := ?_) rfl (by kernel_rfl) (fun _ _ _ h => h) rfl ?_ hS ?_
     rotate_left
     ·intro W hW; go_simp; (try with_reducible rfl)
     simp only [Act.put, zT, zO, zS]
     refine tkYes 5 (v := ?_) rfl (by kernel_rfl) (fun _ _ _ h => h) rfl ?_ hS ?_
     rotate_left
     ·intro W hW; go_simp; (try with_reducible rfl)
     simp only [Act.put, zT, zO, zS]
     refine tkYes 6 (v := ?_) rfl (by kernel_rfl) (fun _ _ _ h => h) rfl ?_ hS ?_
     rotate_left
     ·intro W hW; go_simp; (try with_reducible rfl)
     simp only [Act.put, zT, zO, zS]
     refine tkYes 7 (v := ?_) rfl (by kernel_rfl) (fun _ _ _ h => h) rfl ?_ hS ?_
     rotate_left
     ·intro W hW; go_simp; (try with_reducible rfl)
     simp only [Act.put, zT, zO, zS]
     refine rnOne 1 rfl (by kernel_rfl) rfl (fun K hK => ?_)
     go_simp
     with_reducible refine (bp_hist hS.1).mono ?_
     rintro e w10 hp
     obtain ⟨A8, c8, rfl, p1, hb, p3⟩ := hp
     have S8 := Lib.hid p1
     clear p1 p3
     have hS2 := And.intro (bp_on hS.1 hb) (hS.2.below hb)
     clear hS hb
     have hS := hS2
     clear hS2
     refine hK.out _ _ hS (fun _ => ?_)
     clear hK K
     try simp only [Act.put, zT, zO, zS]
     refine rnOne 8 rfl (by kernel_rfl) rfl (fun K hK => ?_)
     go_simp
     with_reducible refine (rbsame_any A8 A5 s2.h.length (N - k9) c8 c5 s2.h s2.h _ S8.out (DR.out _ hS.2) (by have := S8.out.len; have := (DR.out _ hS.2).len; omega)).mono ?_
     rintro e w11 ⟨⟨zz, rfl, hzz⟩, hb⟩
     obtain rfl : zz = true := hzz.2 rfl
     have hS2 := And.intro (bp_on hS.1 hb) (hS.2.below hb)
     clear hS hb
     have hS := hS2
     clear hS2
     refine hK.out _ _ hS (fun _ => ?_)
     clear hK K
     try simp only [Act.put, zT, zO, zS]
     refine tkYes 9 (v := ?_) rfl (by kernel_rfl) (fun _ _ _ h => h) rfl ?_ hS ?_
     rotate_left
     ·intro W hW; go_simp; (try with_reducible rfl)
     simp only [Act.put, zT, zO, zS]
     refine wpAnyH_done (by kernel_rfl) ?_ _
     have D5 := Lib.hid hS
     clear hS
     go_wp2_with fail
     exact ⟨⟨j + 1, by have := HLT.out; omega, by go_num, by rw [HT.out, HN.out]; exact D5.out.1, by rw [HW2.out, HN.out]; exact D5.out.2⟩, by simp [intOf]; have := HLT.out; omega⟩
    ·have q3 : (r.kind == 3) = false := by simp [k3]
     by_cases k4 : r.kind = 4
     ·have q4 : (r.kind == 4) = true := by simp [k4]
      have HO2 := Lib.hid (HO.out.trans (by rw [if_pos ⟨hc, .inr (.inl k4)⟩]))
      clear hc k3 k4 HO
      go_upto_region 10 with (first
       | ((with_reducible show wpList _ _ _ ({ dst := some 26, op := .load _ _, type := _, pos := _, after := _, guard := _ } :: _) _ _); refine wpList_load_rcm rfl (.tmp 25) rfl b (o + j * 18) (by simp [Act.eval, go_sem]) r RG5.out ?_)
       | (go_at_call 22; (with_reducible refine (CP.out _ _ D.out).mono ?_); rintro e w7 hp; obtain ⟨rfl, hd2, hkk⟩ := hp; have D3 := Lib.hid hd2; have O3 := Lib.hid (O.out.keep hkk); have RG7 := Lib.hid (range_on RG.out ((bp_below D3.out).block b HB.out)); have e0 := RG7.out 0 _ rfl; rw [Nat.add_zero] at e0; have lg := Nat.lt_of_lt_of_le HB.out (bp_below D3.out).size; clear hd2 hkk D O RG5))
      clear e0 lg
      go_upto_region 11 with (first
       | ((with_reducible show wpList _ _ _ ({ dst := some 57, op := .load _ _, type := _, pos := _, after := _, guard := _ } :: _) _ _); refine wpList_load_rcm rfl (.tmp 56) rfl b (o + j * 18) (by simp [Act.eval, go_sem]) r RG7.out ?_)
       | ((with_reducible show wpList _ _ _ ({ dst := some 58, op := .buildSlice _ _ _, type := _, pos := _, after := _, guard := _ } :: _) _ _); refine wpList_build_one Tryz.underlying22 rc_info (by omega) (by omega) rfl (.tmp 57) rfl (Rc.cells r) rfl rfl ?_)
       | (at_builtin; refine wpList_append_one Bk.rcC_len Bk.rcC_one Tryz.underlying22 rc_info rfl (by omega) rfl (.tmp 53) (.tmp 58) rfl w3.heap.size _ own rfl O3.out r rfl (by have := LO.out; have := N3.out; unfold maxLen; omega) (by have := LO.out; have := N3.out; omega) (bp_below D3.out).size ?_; intro v9 w9 ho9 hb9 hg9 hv9; have O4 := Lib.hid ho9; have D4 := Lib.hid (bp_push D3.out hg9 ho9 hv9 (fun k e => (O3.out.lt k e).1)); clear ho9 hb9 hg9 hv9 D3 O3 RG7))
      rw [← HO2.out] at O4
      obtain ⟨AF, cF, rfl⟩ := O4.out.form
      obtain ⟨N, hN⟩ : ∃ N, N = own2.length := ⟨_, rfl⟩
      obtain ⟨k9, hk9⟩ : ∃ k, k = N - 24 := ⟨_, rfl⟩
      have hN100 : (N : Int) ≤ 100 := by have := LO2.out; have := N3.out; omega
      have hw1 : wrap64 ((N : Int) - 24) = (N : Int) - 24 := IntWalk.wrap64_in _ ⟨by omega, by omega⟩
      have hw2 : IntKind.i64.wrap ((N : Int) - 24) = (N : Int) - 24 := IntWalk.i64_in _ ⟨by omega, by omega⟩
      have hmx : max ((N : Int) - 24) 0 = (k9 : Int) := by omega
      obtain ⟨A5, c5, hA5, hsl⟩ : ∃ A5 c5, (A5 = (if cF = k9 then AF else AF.map fun x => x.add (k9 * 18)) ∧ c5 = cF - k9) ∧ ∀ W, (Instr.slice 22 (.slice AF N cF) (some (.int .i64 (k9 : Int))) none none).run Tryz.prog W = .ok (.slice A5 (N - k9) c5) W := ⟨_, _, ⟨rfl, rfl⟩, rccut_run AF N cF k9 (by omega)⟩
      have HL5 : Hid (own2.drop k9 = s2.h) := by show _ = _; rw [HH.out, hk9, hN]; rfl
      have KN : Hid (k9 ≤ N) := by show _ ≤ _; omega
      have HN := Lib.hid hN
      rw [← hN]
      clear hk9 hN
      have DR : Hid (∀ W, OwF Bk.rcC 18 53 W w3.heap.size (.slice AF own2.length cF) own2 → SlF Bk.rcC W A5 (N - k9) c5 s2.h) := fun W h => by
       rw [hA5.1, hA5.2, ← HL5.out, HN.out]
       exact h.sl.drop Bk.rcC_len (HN.out ▸ KN.out) (addr_add (k9 * 18))
      clear hA5
      refine wp_region_held_drew (S := fun W => BP w3 (fun b => (Value.slice AF own2.length cF).ownBlock = some b) q s2 W ∧ OwF Bk.rcC 18 53 W w3.heap.size (.slice AF own2.length cF) own2) (by kernel_rfl) ⟨bp_on D4.out (Below.refl _ _).drew, O4.out.below (Below.refl _ _).drew⟩ (fun hS => ?_)
      refine tkYes 0 (v := ?_) rfl (by kernel_rfl) (fun _ _ _ h => h) rfl ?_ hS ?_
      rotate_left
      ·intro W hW; go_simp; (try with_reducible rfl)
      simp only [Act.put, zT, zO, zS]
      refine tkYes 2 (v := ?_) rfl (by kernel_rfl) (fun _ _ _ h => h) rfl ?_ hS ?_
      rotate_left
      ·intro W hW; go_simp; (try with_reducible rfl)
      simp only [Act.put, zT, zO, zS]
      refine tkYes 3 (v := ?_) rfl (by kernel_rfl) (fun _ _ _ h => h) rfl ?_ hS ?_
      rotate_left
      ·intro W hW; go_simp; (try with_reducible rfl)
      simp only [Act.put, zT, zO, zS]
      refine tkYes 4 (v := ?_) rfl (by kernel_rfl) (fun _ _ _ h => h) rfl ?_ hS ?_
      rotate_left
      ·intro W hW; go_simp; (try with_reducible rfl)
      simp only [Act.put, zT, zO, zS]
      refine tkYes 5 (v := ?_) rfl (by kernel_rfl) (fun _ _ _ h => h) rfl ?_ hS ?_
      rotate_left
      ·intro W hW; go_simp; (try with_reducible rfl)
      simp only [Act.put, zT, zO, zS]
      refine tkYes 6 (v := ?_) rfl (by kernel_rfl) (fun _ _ _ h => h) rfl ?_ hS ?_
      rotate_left
      ·intro W hW; go_simp; (try with_reducible rfl)
      simp only [Act.put, zT, zO, zS]
      refine tkYes 7 (v := ?_) rfl (by kernel_rfl) (fun _ _ _ h => h) rfl ?_ hS ?_
      rotate_left
      ·intro W hW; go_simp; (try with_reducible rfl)
      simp only [Act.put, zT, zO, zS]
      refine rnOne 1 rfl (by kernel_rfl) rfl (fun K hK => ?_)
      go_simp
      with_reducible refine (bp_hist hS.1).mono ?_
      rintro e w10 hp
      obtain ⟨A8, c8, rfl, p1, hb, p3⟩ := hp
      have S8 := Lib.hid p1
      clear p1 p3
      have hS2 := And.intro (bp_on hS.1 hb) (hS.2.below hb)
      clear hS hb
      have hS := hS2
      clear hS2
      refine hK.out _ _ hS (fun _ => ?_)
      clear hK K
      try simp only [Act.put, zT, zO, zS]
      refine rnOne 8 rfl (by kernel_rfl) rfl (fun K hK => ?_)
      go_simp
      with_reducible refine (rbsame_any A8 A5 s2.h.length (N - k9) c8 c5 s2.h s2.h _ S8.out (DR.out _ hS.2) (by have := S8.out.len; have := (DR.out _ hS.2).len; omega)).mono ?_
      rintro e w11 ⟨⟨zz, rfl, hzz⟩, hb⟩
      obtain rfl : zz = true := hzz.2 rfl
      have hS2 := And.intro (bp_on hS.1 hb) (hS.2.below hb)
      clear hS hb
      have hS := hS2
      clear hS2
      refine hK.out _ _ hS (fun _ => ?_)
      clear hK K
      try simp only [Act.put, zT, zO, zS]
      refine tkYes 9 (v := ?_) rfl (by kernel_rfl) (fun _ _ _ h => h) rfl ?_ hS ?_
      rotate_left
      ·intro W hW; go_simp; (try with_reducible rfl)
      simp only [Act.put, zT, zO, zS]
      refine wpAnyH_done (by kernel_rfl) ?_ _
      have D5 := Lib.hid hS
      clear hS
      go_wp2_with fail
      exact ⟨⟨j + 1, by have := HLT.out; omega, by go_num, by rw [HT.out, HN.out]; exact D5.out.1, by rw [HW2.out, HN.out]; exact D5.out.2⟩, by simp [intOf]; have := HLT.out; omega⟩
     ·have q4 : (r.kind == 4) = false := by simp [k4]
      by_cases k7 : r.kind = 7
      ·have q5 : (r.kind == 7) = true := by simp [k7]
       have HO2 := Lib.hid (HO.out.trans (by rw [if_pos ⟨hc, .inr (.inr k7)⟩]))
       clear hc k3 k4 k7 HO
       go_upto_region 10 with (first
        | ((with_reducible show wpList _ _ _ ({ dst := some 26, op := .load _ _, type := _, pos := _, after := _, guard := _ } :: _) _ _); refine wpList_load_rcm rfl (.tmp 25) rfl b (o + j * 18) (by simp [Act.eval, go_sem]) r RG5.out ?_)
        | (go_at_call 22; (with_reducible refine (CP.out _ _ D.out).mono ?_); rintro e w7 hp; obtain ⟨rfl, hd2, hkk⟩ := hp; have D3 := Lib.hid hd2; have O3 := Lib.hid (O.out.keep hkk); have RG7 := Lib.hid (range_on RG.out ((bp_below D3.out).block b HB.out)); have e0 := RG7.out 0 _ rfl; rw [Nat.add_zero] at e0; have lg := Nat.lt_of_lt_of_le HB.out (bp_below D3.out).size; clear hd2 hkk D O RG5))
       clear e0 lg
       go_upto_region 11 with (first
        | ((with_reducible show wpList _ _ _ ({ dst := some 57, op := .load _ _, type := _, pos := _, after := _, guard := _ } :: _) _ _); refine wpList_load_rcm rfl (.tmp 56) rfl b (o + j * 18) (by simp [Act.eval, go_sem]) r RG7.out ?_)
        | ((with_reducible show wpList _ _ _ ({ dst := some 58, op := .buildSlice _ _ _, type := _, pos := _, after := _, guard := _ } :: _) _ _); refine wpList_build_one Tryz.underlying22 rc_info (by omega) (by omega) rfl (.tmp 57) rfl (Rc.cells r) rfl rfl ?_)
        | (at_builtin; refine wpList_append_one Bk.rcC_len Bk.rcC_one Tryz.underlying22 rc_info rfl (by omega) rfl (.tmp 53) (.tmp 58) rfl w3.heap.size _ own rfl O3.out r rfl (by have := LO.out; have := N3.out; unfold maxLen; omega) (by have := LO.out; have := N3.out; omega) (bp_below D3.out).size ?_; intro v9 w9 ho9 hb9 hg9 hv9; have O4 := Lib.hid ho9; have D4 := Lib.hid (bp_push D3.out hg9 ho9 hv9 (fun k e => (O3.out.lt k e).1)); clear ho9 hb9 hg9 hv9 D3 O3 RG7))
       rw [← HO2.out] at O4
       obtain ⟨AF, cF, rfl⟩ := O4.out.form
       obtain ⟨N, hN⟩ : ∃ N, N = own2.length := ⟨_, rfl⟩
       obtain ⟨k9, hk9⟩ : ∃ k, k = N - 24 := ⟨_, rfl⟩
       have hN100 : (N : Int) ≤ 100 := by have := LO2.out; have := N3.out; omega
       have hw1 : wrap64 ((N : Int) - 24) = (N : Int) - 24 := IntWalk.wrap64_in _ ⟨by omega, by omega⟩
       have hw2 : IntKind.i64.wrap ((N : Int) - 24) = (N : Int) - 24 := IntWalk.i64_in _ ⟨by omega, by omega⟩
       have hmx : max ((N : Int) - 24) 0 = (k9 : Int) := by omega
       obtain ⟨A5, c5, hA5, hsl⟩ : ∃ A5 c5, (A5 = (if cF = k9 then AF else AF.map fun x => x.add (k9 * 18)) ∧ c5 = cF - k9) ∧ ∀ W, (Instr.slice 22 (.slice AF N cF) (some (.int .i64 (k9 : Int))) none none).run Tryz.prog W = .ok (.slice A5 (N - k9) c5) W := ⟨_, _, ⟨rfl, rfl⟩, rccut_run AF N cF k9 (by omega)⟩
       have HL5 : Hid (own2.drop k9 = s2.h) := by show _ = _; rw [HH.out, hk9, hN]; rfl
       have KN : Hid (k9 ≤ N) := by show _ ≤ _; omega
       have HN := Lib.hid hN
       rw [← hN]
       clear hk9 hN
       have DR : Hid (∀ W, OwF Bk.rcC 18 53 W w3.heap.size (.slice AF own2.length cF) own2 → SlF Bk.rcC W A5 (N - k9) c5 s2.h) := fun W h => by
        rw [hA5.1, hA5.2, ← HL5.out, HN.out]
        exact h.sl.drop Bk.rcC_len (HN.out ▸ KN.out) (addr_add (k9 * 18))
       clear hA5
       refine wp_region_held_drew (S := fun W => BP w3 (fun b => (Value.slice AF own2.length cF).ownBlock = some b) q s2 W ∧ OwF Bk.rcC 18 53 W w3.heap.size (.slice AF own2.length cF) own2) (by kernel_rfl) ⟨bp_on D4.out (Below.refl _ _).drew, O4.out.below (Below.refl _ _).drew⟩ (fun hS => ?_)
       refine tkYes 0 (v := ?_) rfl (by kernel_rfl) (fun _ _ _ h => h) rfl ?_ hS ?_
       rotate_left
       ·intro W hW; go_simp; (try with_reducible rfl)
       simp only [Act.put, zT, zO, zS]
       refine tkYes 2 (v := ?_) rfl (by kernel_rfl) (fun _ _ _ h => h) rfl ?_ hS ?_
       rotate_left
       ·intro W hW; go_simp; (try with_reducible rfl)
       simp only [Act.put, zT, zO, zS]
       refine tkYes 3 (v := ?_) rfl (by kernel_rfl) (fun _ _ _ h => h) rfl ?_ hS ?_
       rotate_left
       ·intro W hW; go_simp; (try with_reducible rfl)
       simp only [Act.put, zT, zO, zS]
       refine tkYes 4 (v := ?_) rfl (by kernel_rfl) (fun _ _ _ h => h) rfl ?_ hS ?_
       rotate_left
       ·intro W hW; go_simp; (try with_reducible rfl)
       simp only [Act.put, zT, zO, zS]
       refine tkYes 5 (v := ?_) rfl (by kernel_rfl) (fun _ _ _ h => h) rfl ?_ hS ?_
       rotate_left
       ·intro W hW; go_simp; (try with_reducible rfl)
       simp only [Act.put, zT, zO, zS]
       refine tkYes 6 (v := ?_) rfl (by kernel_rfl) (fun _ _ _ h => h) rfl ?_ hS ?_
       rotate_left
       ·intro W hW; go_simp; (try with_reducible rfl)
       simp only [Act.put, zT, zO, zS]
       refine tkYes 7 (v := ?_) rfl (by kernel_rfl) (fun _ _ _ h => h) rfl ?_ hS ?_
       rotate_left
       ·intro W hW; go_simp; (try with_reducible rfl)
       simp only [Act.put, zT, zO, zS]
       refine rnOne 1 rfl (by kernel_rfl) rfl (fun K hK => ?_)
       go_simp
       with_reducible refine (bp_hist hS.1).mono ?_
       rintro e w10 hp
       obtain ⟨A8, c8, rfl, p1, hb, p3⟩ := hp
       have S8 := Lib.hid p1
       clear p1 p3
       have hS2 := And.intro (bp_on hS.1 hb) (hS.2.below hb)
       clear hS hb
       have hS := hS2
       clear hS2
       refine hK.out _ _ hS (fun _ => ?_)
       clear hK K
       try simp only [Act.put, zT, zO, zS]
       refine rnOne 8 rfl (by kernel_rfl) rfl (fun K hK => ?_)
       go_simp
       with_reducible refine (rbsame_any A8 A5 s2.h.length (N - k9) c8 c5 s2.h s2.h _ S8.out (DR.out _ hS.2) (by have := S8.out.len; have := (DR.out _ hS.2).len; omega)).mono ?_
       rintro e w11 ⟨⟨zz, rfl, hzz⟩, hb⟩
       obtain rfl : zz = true := hzz.2 rfl
       have hS2 := And.intro (bp_on hS.1 hb) (hS.2.below hb)
       clear hS hb
       have hS := hS2
       clear hS2
       refine hK.out _ _ hS (fun _ => ?_)
       clear hK K
       try simp only [Act.put, zT, zO, zS]
       refine tkYes 9 (v := ?_) rfl (by kernel_rfl) (fun _ _ _ h => h) rfl ?_ hS ?_
       rotate_left
       ·intro W hW; go_simp; (try with_reducible rfl)
       simp only [Act.put, zT, zO, zS]
       refine wpAnyH_done (by kernel_rfl) ?_ _
       have D5 := Lib.hid hS
       clear hS
       go_wp2_with fail
       exact ⟨⟨j + 1, by have := HLT.out; omega, by go_num, by rw [HT.out, HN.out]; exact D5.out.1, by rw [HW2.out, HN.out]; exact D5.out.2⟩, by simp [intOf]; have := HLT.out; omega⟩
      ·have q5 : (r.kind == 7) = false := by simp [k7]
       have HO2 : Hid (own2 = own) := HO.out.trans (by rw [if_neg (fun h => by omega), List.append_nil])
       clear hc k3 k4 k7 HO
       go_upto_region 11 with (first
        | ((with_reducible show wpList _ _ _ ({ dst := some 26, op := .load _ _, type := _, pos := _, after := _, guard := _ } :: _) _ _); refine wpList_load_rcm rfl (.tmp 25) rfl b (o + j * 18) (by simp [Act.eval, go_sem]) r RG5.out ?_)
        | (go_at_call 22; (with_reducible refine (CP.out _ _ D.out).mono ?_); rintro e w7 hp; obtain ⟨rfl, hd2, hkk⟩ := hp; have D3 := Lib.hid hd2; have O3 := Lib.hid (O.out.keep hkk); have RG7 := Lib.hid (range_on RG.out ((bp_below D3.out).block b HB.out)); have e0 := RG7.out 0 _ rfl; rw [Nat.add_zero] at e0; have lg := Nat.lt_of_lt_of_le HB.out (bp_below D3.out).size; clear hd2 hkk D O RG5))
       clear e0 lg RG7
       have O4 := O3
       have D4 := D3
       clear O3 D3
       rw [← HO2.out] at O4
       obtain ⟨AF, cF, rfl⟩ := O4.out.form
       obtain ⟨N, hN⟩ : ∃ N, N = own2.length := ⟨_, rfl⟩
       obtain ⟨k9, hk9⟩ : ∃ k, k = N - 24 := ⟨_, rfl⟩
       have hN100 : (N : Int) ≤ 100 := by have := LO2.out; have := N3.out; omega
       have hw1 : wrap64 ((N : Int) - 24) = (N : Int) - 24 := IntWalk.wrap64_in _ ⟨by omega, by omega⟩
       have hw2 : IntKind.i64.wrap ((N : Int) - 24) = (N : Int) - 24 := IntWalk.i64_in _ ⟨by omega, by omega⟩
       have hmx : max ((N : Int) - 24) 0 = (k9 : Int) := by omega
       obtain ⟨A5, c5, hA5, hsl⟩ : ∃ A5 c5, (A5 = (if cF = k9 then AF else AF.map fun x => x.add (k9 * 18)) ∧ c5 = cF - k9) ∧ ∀ W, (Instr.slice 22 (.slice AF N cF) (some (.int .i64 (k9 : Int))) none none).run Tryz.prog W = .ok (.slice A5 (N - k9) c5) W := ⟨_, _, ⟨rfl, rfl⟩, rccut_run AF N cF k9 (by omega)⟩
       have HL5 : Hid (own2.drop k9 = s2.h) := by show _ = _; rw [HH.out, hk9, hN]; rfl
       have KN : Hid (k9 ≤ N) := by show _ ≤ _; omega
       have HN := Lib.hid hN
       rw [← hN]
       clear hk9 hN
       have DR : Hid (∀ W, OwF Bk.rcC 18 53 W w3.heap.size (.slice AF own2.length cF) own2 → SlF Bk.rcC W A5 (N - k9) c5 s2.h) := fun W h => by
        rw [hA5.1, hA5.2, ← HL5.out, HN.out]
        exact h.sl.drop Bk.rcC_len (HN.out ▸ KN.out) (addr_add (k9 * 18))
       clear hA5
       refine wp_region_held_drew (S := fun W => BP w3 (fun b => (Value.slice AF own2.length cF).ownBlock = some b) q s2 W ∧ OwF Bk.rcC 18 53 W w3.heap.size (.slice AF own2.length cF) own2) (by kernel_rfl) ⟨bp_on D4.out (Below.refl _ _).drew, O4.out.below (Below.refl _ _).drew⟩ (fun hS => ?_)
       refine tkYes 0 (v := ?_) rfl (by kernel_rfl) (fun _ _ _ h => h) rfl ?_ hS ?_
       rotate_left
       ·intro W hW; go_simp; (try with_reducible rfl)
       simp only [Act.put, zT, zO, zS]
       refine tkYes 2 (v := ?_) rfl (by kernel_rfl) (fun _ _ _ h => h) rfl ?_ hS ?_
       rotate_left
       ·intro W hW; go_simp; (try with_reducible rfl)
       simp only [Act.put, zT, zO, zS]
       refine tkYes 3 (v := ?_) rfl (by kernel_rfl) (fun _ _ _ h => h) rfl ?_ hS ?_
       rotate_left
       ·intro W hW; go_simp; (try with_reducible rfl)
       simp only [Act.put, zT, zO, zS]
       refine tkYes 4 (v := ?_) rfl (by kernel_rfl) (fun _ _ _ h => h) rfl ?_ hS ?_
       rotate_left
       ·intro W hW; go_simp; (try with_reducible rfl)
       simp only [Act.put, zT, zO, zS]
       refine tkYes 5 (v := ?_) rfl (by kernel_rfl) (fun _ _ _ h => h) rfl ?_ hS ?_
       rotate_left
       ·intro W hW; go_simp; (try with_reducible rfl)
       simp only [Act.put, zT, zO, zS]
       refine tkYes 6 (v := ?_) rfl (by kernel_rfl) (fun _ _ _ h => h) rfl ?_ hS ?_
       rotate_left
       ·intro W hW; go_simp; (try with_reducible rfl)
       simp only [Act.put, zT, zO, zS]
       refine tkYes 7 (v := ?_) rfl (by kernel_rfl) (fun _ _ _ h => h) rfl ?_ hS ?_
       rotate_left
       ·intro W hW; go_simp; (try with_reducible rfl)
       simp only [Act.put, zT, zO, zS]
       refine rnOne 1 rfl (by kernel_rfl) rfl (fun K hK => ?_)
       go_simp
       with_reducible refine (bp_hist hS.1).mono ?_
       rintro e w10 hp
       obtain ⟨A8, c8, rfl, p1, hb, p3⟩ := hp
       have S8 := Lib.hid p1
       clear p1 p3
       have hS2 := And.intro (bp_on hS.1 hb) (hS.2.below hb)
       clear hS hb
       have hS := hS2
       clear hS2
       refine hK.out _ _ hS (fun _ => ?_)
       clear hK K
       try simp only [Act.put, zT, zO, zS]
       refine rnOne 8 rfl (by kernel_rfl) rfl (fun K hK => ?_)
       go_simp
       with_reducible refine (rbsame_any A8 A5 s2.h.length (N - k9) c8 c5 s2.h s2.h _ S8.out (DR.out _ hS.2) (by have := S8.out.len; have := (DR.out _ hS.2).len; omega)).mono ?_
       rintro e w11 ⟨⟨zz, rfl, hzz⟩, hb⟩
       obtain rfl : zz = true := hzz.2 rfl
       have hS2 := And.intro (bp_on hS.1 hb) (hS.2.below hb)
       clear hS hb
       have hS := hS2
       clear hS2
       refine hK.out _ _ hS (fun _ => ?_)
       clear hK K
       try simp only [Act.put, zT, zO, zS]
       refine tkYes 9 (v := ?_) rfl (by kernel_rfl) (fun _ _ _ h => h) rfl ?_ hS ?_
       rotate_left
       ·intro W hW; go_simp; (try with_reducible rfl)
       simp only [Act.put, zT, zO, zS]
       refine wpAnyH_done (by kernel_rfl) ?_ _
       have D5 := Lib.hid hS
       clear hS
       go_wp2_with fail
       exact ⟨⟨j + 1, by have := HLT.out; omega, by go_num, by rw [HT.out, HN.out]; exact D5.out.1, by rw [HW2.out, HN.out]; exact D5.out.2⟩, by simp [intOf]; have := HLT.out; omega⟩
   ·have q2 : (z == 0) = false := by simpa using hc
    have HO2 : Hid (own2 = own) := HO.out.trans (by rw [if_neg (fun h => hc h.1), List.append_nil])
    clear hc HO
    go_upto_region 11 with (first
     | ((with_reducible show wpList _ _ _ ({ dst := some 26, op := .load _ _, type := _, pos := _, after := _, guard := _ } :: _) _ _); refine wpList_load_rcm rfl (.tmp 25) rfl b (o + j * 18) (by simp [Act.eval, go_sem]) r RG5.out ?_)
     | (go_at_call 22; (with_reducible refine (CP.out _ _ D.out).mono ?_); rintro e w7 hp; obtain ⟨rfl, hd2, hkk⟩ := hp; have D3 := Lib.hid hd2; have O3 := Lib.hid (O.out.keep hkk); have RG7 := Lib.hid (range_on RG.out ((bp_below D3.out).block b HB.out)); have e0 := RG7.out 0 _ rfl; rw [Nat.add_zero] at e0; have lg := Nat.lt_of_lt_of_le HB.out (bp_below D3.out).size; clear hd2 hkk D O RG5))
    clear e0 lg RG7
    have O4 := O3
    have D4 := D3
    clear O3 D3
    rw [← HO2.out] at O4
    obtain ⟨AF, cF, rfl⟩ := O4.out.form
    obtain ⟨N, hN⟩ : ∃ N, N = own2.length := ⟨_, rfl⟩
    obtain ⟨k9, hk9⟩ : ∃ k, k = N - 24 := ⟨_, rfl⟩
    have hN100 : (N : Int) ≤ 100 := by have := LO2.out; have := N3.out; omega
    have hw1 : wrap64 ((N : Int) - 24) = (N : Int) - 24 := IntWalk.wrap64_in _ ⟨by omega, by omega⟩
    have hw2 : IntKind.i64.wrap ((N : Int) - 24) = (N : Int) - 24 := IntWalk.i64_in _ ⟨by omega, by omega⟩
    have hmx : max ((N : Int) - 24) 0 = (k9 : Int) := by omega
    obtain ⟨A5, c5, hA5, hsl⟩ : ∃ A5 c5, (A5 = (if cF = k9 then AF else AF.map fun x => x.add (k9 * 18)) ∧ c5 = cF - k9) ∧ ∀ W, (Instr.slice 22 (.slice AF N cF) (some (.int .i64 (k9 : Int))) none none).run Tryz.prog W = .ok (.slice A5 (N - k9) c5) W := ⟨_, _, ⟨rfl, rfl⟩, rccut_run AF N cF k9 (by omega)⟩
    have HL5 : Hid (own2.drop k9 = s2.h) := by show _ = _; rw [HH.out, hk9, hN]; rfl
    have KN : Hid (k9 ≤ N) := by show _ ≤ _; omega
    have HN := Lib.hid hN
    rw [← hN]
    clear hk9 hN
    have DR : Hid (∀ W, OwF Bk.rcC 18 53 W w3.heap.size (.slice AF own2.length cF) own2 → SlF Bk.rcC W A5 (N - k9) c5 s2.h) := fun W h => by
     rw [hA5.1, hA5.2, ← HL5.out, HN.out]
     exact h.sl.drop Bk.rcC_len (HN.out ▸ KN.out) (addr_add (k9 * 18))
    clear hA5
    refine wp_region_held_drew (S := fun W => BP w3 (fun b => (Value.slice AF own2.length cF).ownBlock = some b) q s2 W ∧ OwF Bk.rcC 18 53 W w3.heap.size (.slice AF own2.length cF) own2) (by kernel_rfl) ⟨bp_on D4.out (Below.refl _ _).drew, O4.out.below (Below.refl _ _).drew⟩ (fun hS => ?_)
    refine tkYes 0 (v := ?_) rfl (by kernel_rfl) (fun _ _ _ h => h) rfl ?_ hS ?_
    rotate_left
    ·intro W hW; go_simp; (try with_reducible rfl)
    simp only [Act.put, zT, zO, zS]
    refine tkYes 2 (v := ?_) rfl (by kernel_rfl) (fun _ _ _ h => h) rfl ?_ hS ?_
    rotate_left
    ·intro W hW; go_simp; (try with_reducible rfl)
    simp only [Act.put, zT, zO, zS]
    refine tkYes 3 (v := ?_) rfl (by kernel_rfl) (fun _ _ _ h => h) rfl ?_ hS ?_
    rotate_left
    ·intro W hW; go_simp; (try with_reducible rfl)
    simp only [Act.put, zT, zO, zS]
    refine tkYes 4 (v := ?_) rfl (by kernel_rfl) (fun _ _ _ h => h) rfl ?_ hS ?_
    rotate_left
    ·intro W hW; go_simp; (try with_reducible rfl)
    simp only [Act.put, zT, zO, zS]
    refine tkYes 5 (v := ?_) rfl (by kernel_rfl) (fun _ _ _ h => h) rfl ?_ hS ?_
    rotate_left
    ·intro W hW; go_simp; (try with_reducible rfl)
    simp only [Act.put, zT, zO, zS]
    refine tkYes 6 (v := ?_) rfl (by kernel_rfl) (fun _ _ _ h => h) rfl ?_ hS ?_
    rotate_left
    ·intro W hW; go_simp; (try with_reducible rfl)
    simp only [Act.put, zT, zO, zS]
    refine tkYes 7 (v := ?_) rfl (by kernel_rfl) (fun _ _ _ h => h) rfl ?_ hS ?_
    rotate_left
    ·intro W hW; go_simp; (try with_reducible rfl)
    simp only [Act.put, zT, zO, zS]
    refine rnOne 1 rfl (by kernel_rfl) rfl (fun K hK => ?_)
    go_simp
    with_reducible refine (bp_hist hS.1).mono ?_
    rintro e w10 hp
    obtain ⟨A8, c8, rfl, p1, hb, p3⟩ := hp
    have S8 := Lib.hid p1
    clear p1 p3
    have hS2 := And.intro (bp_on hS.1 hb) (hS.2.below hb)
    clear hS hb
    have hS := hS2
    clear hS2
    refine hK.out _ _ hS (fun _ => ?_)
    clear hK K
    try simp only [Act.put, zT, zO, zS]
    refine rnOne 8 rfl (by kernel_rfl) rfl (fun K hK => ?_)
    go_simp
    with_reducible refine (rbsame_any A8 A5 s2.h.length (N - k9) c8 c5 s2.h s2.h _ S8.out (DR.out _ hS.2) (by have := S8.out.len; have := (DR.out _ hS.2).len; omega)).mono ?_
    rintro e w11 ⟨⟨zz, rfl, hzz⟩, hb⟩
    obtain rfl : zz = true := hzz.2 rfl
    have hS2 := And.intro (bp_on hS.1 hb) (hS.2.below hb)
    clear hS hb
    have hS := hS2
    clear hS2
    refine hK.out _ _ hS (fun _ => ?_)
    clear hK K
    try simp only [Act.put, zT, zO, zS]
    refine tkYes 9 (v := ?_) rfl (by kernel_rfl) (fun _ _ _ h => h) rfl ?_ hS ?_
    rotate_left
    ·intro W hW; go_simp; (try with_reducible rfl)
    simp only [Act.put, zT, zO, zS]
    refine wpAnyH_done (by kernel_rfl) ?_ _
    have D5 := Lib.hid hS
    clear hS
    go_wp2_with fail
    exact ⟨⟨j + 1, by have := HLT.out; omega, by go_num, by rw [HT.out, HN.out]; exact D5.out.1, by rw [HW2.out, HN.out]; exact D5.out.2⟩, by simp [intOf]; have := HLT.out; omega⟩
  ·obtain rfl : j = l3.length := by omega
   have B9 := Lib.hid (B3.out.trans ((bp_below D.out).mono B3.out.size))
   have i2 : ((l3.length : Nat) : Int) ≤ ((l3.length : Nat) : Int) := Int.le_refl _
   clear hlt
   go_wp2_with fail
   go_ret
   exact ⟨rfl, B9.out⟩
end Go.Proofs.YtnacjhnfkkddcaaGreatDoor
namespace Go.Proofs.YtnacjhnfkkddcaaGreatDoor.bookHistory
open Go.ChangeShapes Go.WideShapes Go.ChangeAt Go.RowKit Go.Deep
open Go.ChangeMaps (open_string shut_string)
set_option linter.unusedVariables false
theorem own : ownKnob Tryz.prog.godebug = none := by kernel_rfl
theorem laidOut : laidOutB Tryz.prog = true := by kernel_rfl
set_option maxRecDepth 100000 in
theorem lifted (os : Os) (started : os.Started) (H : Type) (enc : TypeId × Value → H) :
  ReturnsInHanded {} Tryz.checked os 8 .any (fun w args => (Rows.bookHistorySpec.pre enc Tryz.prog Tryz.f8 Rows.bookHistoryRow.domain false w args ∧ laidMetH Tryz.prog Rows.bookHistoryRow.laid w) ∧ sizedMet enc Tryz.prog Tryz.f8 (OpenSpec.ofChange Rows.bookHistorySpec) false w args)
   (Rows.bookHistorySpec.post enc Tryz.prog Tryz.f8 false true false false) := by
 refine returns_laid_shaped (C := Tryz.checked) (X := fun w _ => laidMetH Tryz.prog Rows.bookHistoryRow.laid w) (fun _ _ _ hh h => h.of_heap hh) own started (by kernel_rfl) Tryz.func8
  (ChangeSpec.witness_shaped (enc := enc) (C := Tryz.checked) (os := os) (X := fun w _ => laidMetH Tryz.prog Rows.bookHistoryRow.laid w) false (World.laidAll Tryz.prog os Rows.bookHistoryRow.laid) #[.int .i64 0, .slice none 0 0] 8 (World.laidAll_os _ _ _)
   (World.shaped_of_ZipB (by kernel_rfl) (by kernel_rfl)) (by kernel_rfl) (by kernel_rfl) (by kernel_rfl)
   (by rw [MakeChecks.laidMetH_plain _ _ _ (by kernel_rfl)]; exact laidMet_laidAll _ (by kernel_rfl) (by kernel_rfl))) ?_
 intro W base args ds gs before hval0 hW hL hsh
 have TB : BT W := tb_of hL hsh
 have hval : ∀ (j : Nat) t v, Tryz.f8.params[j]? = some t → args[j]? = some v → Value.okWide Tryz.prog W .any base t v := hval0
 have hW' := hW
 obtain ⟨p, q, hA0, hV, rfl, hfz, hnd⟩ := hW
 have hA : DataW.TrodAll enc Tryz.prog W 0 (fun _ => true) true Tryz.f8.params.toList args.toList ds p := hA0
 rw [Tryz.params8] at hA hval
 obtain ⟨v0, vs0, d0, ds0, p0, q0, hargs, rfl, rfl, h0, r0⟩ := trodAll_cons hA
 obtain ⟨v1, vs1, d1, ds1, p1, q1, rfl, rfl, rfl, h1, r1⟩ := trodAll_cons r0
 obtain ⟨rfl, rfl, rfl⟩ := trodAll_nil r1
 obtain rfl : args = #[v0, v1] := by cases args; simp_all
 obtain ⟨rfl, rfl⟩ := trodVars_none hV
 obtain ⟨a0, rfl, rfl, rfl, w0⟩ := open_int Tryz.underlying3 (hval 0 3 v0 rfl rfl) h0
 obtain ⟨a1, len1, cap1, rfl⟩ := okWide_slice Tryz.underlying22 (hval 1 22 v1 rfl rfl)
 have k1 := h1
 have lt1 : ∀ x ∈ p1, x.block < W.heap.size := by obtain ⟨m, hm⟩ := k1; exact DataW.trod_lt m _ _ _ hm
 obtain ⟨l1, s1⟩ : ∃ ts, SlF Bk.rcC W a1 len1 cap1 ts ∧ ∀ r ∈ ts, Rc.In r := by
  obtain ⟨fuel, hf⟩ := h1
  exact recs_of hf
 clear hA0 hval0
 refine (bookhistory_walk a0 a1 len1 cap1 l1 s1.2 W s1.1 TB).mono fun e W' ⟨he, bel⟩ => ?_
 subst he
 exact ⟨_, rfl, _, _, _, [], _, [], hW', trodAll_mk1 (shut_bool Tryz.underlying4 _), (trodAll_cons_mk (shut_int Tryz.underlying3 w0) (trodAll_cons_mk (Below.trod laidOut (by kernel_rfl) (of_decide_eq_true (by kernel_rfl)) k1 bel lt1) trodAll_mk0)), rfl, bel.frame _, fun h => by cases h⟩
theorem over : Rows.bookHistoryRow.holds Tryz.pinned (OpenSpec.ofChange Rows.bookHistorySpec) :=
 OpenClaim.holds_of_wide 8 Tryz.f8 rfl rfl rfl rfl rfl rfl rfl ⟨rfl, rfl, rfl, rfl, rfl⟩ rfl rfl rfl rfl rfl (by kernel_rfl) Tryz.func8 (by kernel_rfl)
  (of_decide_eq_true (by kernel_rfl)) (by unfold Func.isWrapper; first | (rw [if_pos (by decide +kernel)]; kernel_rfl) | (rw [if_neg (by decide +kernel)]; exact ⟨rfl, rfl⟩))
  (fun os started H enc _ => lifted os started H enc)
theorem proved : Rows.BookHistoryCardSaid :=
 Claim7.holds_tied_plain_at .later [] [.data, .data, .data, .data, .data] true (true, "c5c1848f9e642c3994f925240c50aea25b5ca66c5be079995ae028e73a4b7396") true over (fun _ h => by cases h) (by kernel_rfl) (fun _ h => by cases h) bookHistory_row_tie rfl ⟨rfl, rfl⟩ (by kernel_rfl) rfl
  (fun f fn hf hfn => by
   obtain rfl : f = 8 := Option.some.inj ((show Tryz.prog.funcNamed Rows.bookHistoryRow.func = some 8 by kernel_rfl).symm.trans hf) |>.symm
   obtain rfl : fn = Tryz.f8 := (Option.some.inj (Tryz.func8.symm.trans hfn)).symm
   exact ⟨by kernel_rfl, fun j t ht => by
    rw [Tryz.params8] at ht
    have hm : t ∈ [3, 22] := by simpa using Array.mem_of_getElem? ht
    have hall : ([3, 22].all fun u => !Tryz.prog.wantsStandIn u) = true := by kernel_rfl
    exact (show Tryz.prog.wantsStandIn t = false by simpa using List.all_eq_true.1 hall t hm)⟩)
  (by kernel_rfl)
end Go.Proofs.YtnacjhnfkkddcaaGreatDoor.bookHistory
