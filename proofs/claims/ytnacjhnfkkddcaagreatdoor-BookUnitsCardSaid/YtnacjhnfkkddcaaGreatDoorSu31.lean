import Derived.WalkKit
import Derived.Below
import Derived.Deep.Draws
import Derived.Laws.Rows
import Derived.Lib.Hide
import Derived.ProofKit
import Derived.OpenShut
import Derived.Outline
import Derived.OwnWalk
import Derived.Laws.OwnMore
import Derived.Laws.AppendOwnNone
import Derived.Deep.QuietTactic
import Derived.BigQuiet
import Derived.Deep.DeepFit
import Derived.ScopeJumps
import Derived.WalkMore
import Derived.Laws.BytesArg
import Derived.Laws.Concat
import Derived.Test.YtnacjhnfkkddcaaGreatDoorRows
import Derived.Laws.StructEq
import Derived.ChangeKeysEq
import Derived.Maps.AppendAt
import Derived.Deep.Slices
import Derived.Deep.WholeRow
import Derived.Lib.MinMax
import Derived.Handy
import Derived.BigRegion
import Derived.Deep.Cut
import Derived.Deep.DeepCutAuto
import Derived.Deep.RegionHeld3
import Derived.Laws.Cover1
import Derived.Laws.CopyOwn
import Derived.Laws.ResultCell
import Derived.Great.BuildSlice
import Derived.Deep.MidRow
import Derived.Deep.CutBlock
import Derived.Maps.OwnSet
import Derived.Maps.OwnOps
import Derived.Maps.RangeWalk
import Derived.StringKeys
import Derived.Laws.IdiomRangeMap
import Derived.Laws.Strings
import Derived.Laws.ByValue
import Derived.IntWalk
import Derived.Lib.Atoi
import Derived.Lib.ItoaNum
import Derived.Lib.Split
import Derived.Lib.Join
import Derived.Lib.Strings
import Derived.Deep.RegionWith
import Derived.Laws.Tables
import Derived.Laws.Cover3
import Derived.Sort.OwnSorted
import Derived.Sort.KeysCollected
import Derived.Shelf.Strconv.Atoi
import Derived.Shelf.Strconv.Itoa0
import Derived.Shelf.Strconv.Itoa1
import Derived.Shelf.LaysM
import Derived.Shelf.Strconv.Itoa2
import Derived.Shelf.Strconv.Itoa3
import Derived.Shelf.Sort.Plain
import Derived.Shelf.Slices.Equal
import Derived.Shelf.Slices.In.SortNone
import Derived.Shelf.Slices.Empties2
import Derived.Test.YtnacjhnfkkddcaaGreatDoorProg
import Derived.Shelf.Abstract
import Derived.Lib.SmallJoins
import Derived.Lib.LaidTab
import Derived.Lib.LaidU8
import Derived.Deep.DeepAppendRoom
import Derived.Lib.SliceRun
import Derived.Laws.IdiomCopy
import Derived.Carry
import Derived.Sort.OwnSortedInts
import Derived.Handed
import Derived.HandedShaped
import Derived.Stop.LaidErr
import Derived.Shelf.Vars
import Derived.MakeChecks
import Derived.Lay
import Derived.Test.YtnacjhnfkkddcaaGreatDoorSu01
import Derived.Test.YtnacjhnfkkddcaaGreatDoorSu03
import Derived.Test.YtnacjhnfkkddcaaGreatDoorSu02
import Derived.Test.YtnacjhnfkkddcaaGreatDoorSu15
import Derived.Test.YtnacjhnfkkddcaaGreatDoorSu06
import Derived.Test.YtnacjhnfkkddcaaGreatDoorSu17
import Derived.Test.YtnacjhnfkkddcaaGreatDoorSu16
import Derived.Test.YtnacjhnfkkddcaaGreatDoorSu22
import Derived.Test.YtnacjhnfkkddcaaGreatDoorSu20
import Derived.Test.YtnacjhnfkkddcaaGreatDoorSu30
import Derived.Test.YtnacjhnfkkddcaaGreatDoorSu29
namespace Go.Proofs.YtnacjhnfkkddcaaGreatDoor
open Go.RowKit
set_option maxRecDepth 100000
set_option linter.unusedSimpArgs false
set_option linter.unusedVariables false
theorem Bk.unitsOf2 {s : Bk.St} {r : Rc.R} (u : Nat) (h : ((Bk.app s r).us u).v ≠ (s.us u).v) : ((Bk.app s r).us u).d = false := by
 obtain ⟨hc, hk, hu⟩ := (Bk.unitsOf.2.2 u).2 h
 rw [Bk.app_ok hc, Bk.act5 hk]
 have e : Bk.setU s.us r.who.toNat ⟨r.n, r.seq, false⟩ u = ⟨r.n, r.seq, false⟩ := if_pos hu.symm
 show (Bk.setU s.us r.who.toNat ⟨r.n, r.seq, false⟩ u).d = false
 rw [e]
theorem units_at (s : Bk.St) {u : Nat} (hu : u < 16) : (Bk.units s)[u]? = some (s.us u) := by
 unfold Bk.units
 rw [List.getElem?_map, List.getElem?_range hu]
 rfl
theorem unit_cells {w : World} {b o c : Nat} {s : Bk.St} {u : Nat} (hu : u < 16) (h : SlF Bk.unC w (some ⟨b, o, none⟩) 16 c (Bk.units s)) : w.cell? ⟨b, o + u * 3, none⟩ = some (.int .i64 (s.us u).v) ∧ w.cell? ⟨b, o + u * 3 + 1, none⟩ = some (.int .i64 (s.us u).q) ∧ w.cell? ⟨b, o + u * 3 + 2, none⟩ = some (.bool (s.us u).d) ∧ b < w.heap.size := by
 obtain ⟨b', o', e, hb, hc⟩ := h.at_ unC_len (units_at s hu)
 injection e with e; injection e with e1 e2; subst e1 e2
 exact ⟨hc 0 _ rfl, hc 1 _ rfl, hc 2 _ rfl, hb⟩
theorem units_some {w : World} {A : Option Addr} {c : Nat} {s : Bk.St} (h : SlF Bk.unC w A 16 c (Bk.units s)) : ∃ b o, A = some ⟨b, o, none⟩ := by
 obtain ⟨b, o, e, _⟩ := h.rd (by rw [units_len]; omega)
 exact ⟨b, o, e⟩
set_option maxHeartbeats 6400000 in
theorem bookunits_walk (m : Int) (A : Option Addr) (k c : Nat) (l : List Rc.R) (hin : ∀ r ∈ l, Rc.In r) (W : World) (hs : SlF Bk.rcC W A k c l) (ht : BT W) : Calls Tryz.prog 10 #[.int .i64 m, .slice A k c] W (BRet (.bool true) W) := by
 have T0 := Lib.hid ht
 have S0 := Lib.hid hs
 have CLV := Lib.hid (lives_any W ht)
 have CSH : Hid (∀ w, SlF Bk.rcC w A k c l → Calls Tryz.prog 12 #[.slice A k c, .int .i64 60] w (SomeRecs w 60)) := fun w h => bkshort_any A k c 60 l hin w h (by omega)
 have CON : Hid (∀ w A k c l, SlF Bk.rcC w A k c l → (∀ r ∈ l, Rc.In r) → k ≤ 1000 → Calls Tryz.prog 13 #[.int .i64 m, .slice A k c] w (SomeRecs w k)) := fun w A k c l h1 h2 h3 => bkon_any m A k c l h2 w h1 h3
 have CNW := Lib.hid (fun w => bp_new w m)
 clear ht hs hin
 go_enter Tryz.func10, Tryz.ntmps10
 go_upto_region 5 with (first
  | (go_at_call 11; (with_reducible refine CLV.out.mono ?_); rintro e w1 ⟨rfl, hb⟩; have B1 := Lib.hid hb; have S1 := Lib.hid (S0.out.on hb); clear hb)
  | (go_at_call 12; (with_reducible refine (CSH.out _ S1.out).mono ?_); rintro e w2 ⟨A2, c2, l2, rfl, h1, h2, h3, h4⟩; have S2 := Lib.hid h1; have I2 := Lib.hid h2; have N2 := Lib.hid h3; have B2 := Lib.hid (B1.out.trans (h4.mono B1.out.size)); clear h1 h2 h3 h4)
  | (go_at_call 13; (with_reducible refine (CON.out _ _ _ _ _ S2.out I2.out (by have := N2.out; omega)).mono ?_); rintro e w3 ⟨A3, c3, l3, rfl, h1, h2, h3, h4⟩; have S3 := Lib.hid h1; have I3 := Lib.hid h2; have N3 := Lib.hid (Nat.le_trans h3 N2.out); have B3 := Lib.hid (B2.out.trans (h4.mono B2.out.size)); clear h1 h2 h3 h4)
  | (go_at_call 20; (with_reducible refine (CNW.out _).mono ?_); rintro e w4 ⟨q, rfl, hd⟩; have D4 := Lib.hid hd; clear hd))
 clear S0 S1 S2 I2 N2 B1 B2 CLV CSH CON CNW
 have T3 := Lib.hid (T0.out.on B3.out)
 clear T0
 have SZ := Lib.hid S3.out.len
 have hcap := S3.out.cap
 have n60 : ((l3.length : Nat) : Int) ≤ 60 := by have := N3.out; omega
 go_wp2_with fail
 go_loopw [6] (fun i wr => ∃ j : Nat, j ≤ l3.length ∧ i = .int .i64 j ∧ BP w3 (fun _ => False) q (Bk.run (Bk.new m) (l3.take j)) wr) (fun i _ => l3.length - (intOf i).toNat)
 case atStart => exact ⟨0, Nat.zero_le _, rfl, D4.out⟩
 case round =>
  clear D4
  obtain ⟨j, hj, rfl, hd⟩ := hrel
  have D := Lib.hid hd
  clear hd
  have i1 : (0 : Int) ≤ (j : Int) := by omega
  by_cases hlt : j < l3.length
  ·have hx : l3[j]? = some (l3[j]'hlt) := List.getElem?_eq_getElem _
   have HT := Lib.hid (Bk.take_run (Bk.new m) l3 (k := j) hlt).1
   generalize l3[j]'hlt = r at hx HT
   have HR : Hid (Rc.In r) := I3.out r (List.mem_of_getElem? hx)
   obtain ⟨b, o, rfl, hbl, hrg⟩ := rc_range S3.out hx
   have RG := Lib.hid hrg
   have HB := Lib.hid hbl
   have HLT := Lib.hid hlt
   have i2 : (j : Int) < (l3.length : Nat) := by omega
   clear hx hrg hbl hlt
   have OK : Hid (Bk.Ok (Bk.run (Bk.new m) (l3.take j))) := bp_ok D.out
   generalize Bk.run (Bk.new m) (l3.take j) = s at *
   have HE := Lib.hid (Bk.unitsOf (s := s) (r := r))
   have HF := Lib.hid (Bk.unitsOf2 (s := s) (r := r))
   have CP := Lib.hid (fun F w (h : BP w3 F q s w) => bp_apply h (T3.out.on (bp_below h)) HR.out)
   have OK2 : Hid (Bk.Ok (Bk.app s r)) := Bk.app_okay OK.out
   obtain ⟨s2, hs2⟩ : ∃ s2, s2 = Bk.app s r := ⟨_, rfl⟩
   obtain ⟨z, hz⟩ : ∃ z, z = Bk.chk s r := ⟨_, rfl⟩
   rw [← hs2, ← hz] at HE CP
   rw [← hs2] at HT OK2 HF
   have HI : Hid (z = 0 ∧ r.kind = 5 → 0 ≤ r.who) := fun h => (Rc.right5 h.2 (Bk.chk_right (hz ▸ h.1))).1.1
   clear hs2 hz
   have hv0 : ∀ w, (Instr.field 48 (.agg (Bk.viewC s)) 9).run Tryz.prog w = .ok (.int .i64 s.seq) w := vf9 s
   have hv1 : ∀ w, (Instr.field 48 (.agg (Bk.viewC s2)) 9).run Tryz.prog w = .ok (.int .i64 s2.seq) w := vf9 s2
   generalize hsq : s.seq = sq at *
   generalize hsr : s2.seq = sr at *
   have HSR := Lib.hid hsr
   have q5 := OK.out.seq
   have q6 := OK2.out.seq
   rw [hsq] at q5
   rw [hsr] at q6
   have QQ := Lib.hid (And.intro q5 q6)
   clear q5 q6 hsq hsr
   go_upto_region 9 with (first
    | (go_at_call 28; (with_reducible refine (bp_units D.out).mono ?_); rintro e w5 ⟨A5, c5, rfl, h1, h2, h3⟩; rw [units_len] at h1 ⊢; have D1 := Lib.hid (bp_more D.out h2); have V5 := Lib.hid h1; have P5 := Lib.hid h3; clear h1 h2 h3 D)
    | (go_at_call 21; (with_reducible refine (bp_view D1.out).mono ?_); rintro e w6 ⟨rfl, hb⟩; have D2 := Lib.hid (bp_on D1.out hb); have V6 := Lib.hid (V5.out.on hb); clear hb D1))
   obtain ⟨bw, ow, rfl⟩ := units_some V6.out
   have HW := Lib.hid V6.out
   obtain ⟨F5, hF5⟩ : ∃ F5 : Nat → Prop, F5 = fun b => False ∨ (wr.heap.size ≤ b ∧ b < w5.heap.size) := ⟨_, rfl⟩
   rw [← hF5] at D2
   have FA : Hid (∀ w : World, (∀ b, F5 b → w.heap[b]? = w6.heap[b]?) → SlF Bk.unC w (some ⟨bw, ow, none⟩) 16 c5 (Bk.units s)) := fun w hk => V6.out.keep2 fun b o e hl => hk b (by
    rw [hF5]
    exact .inr ⟨P5.out b o e, by
     obtain ⟨b', o', e', hb', _⟩ := V5.out.rd (by rw [units_len]; omega)
     rw [e] at e'; injection e' with e'; injection e' with e' _
     omega⟩)
   have RG6 := Lib.hid (range_on RG.out ((bp_below D2.out).block b HB.out))
   clear hF5 P5 V5 V6 HW
   go_upto_region 10 with (first
    | ((with_reducible show wpList _ _ _ ({ dst := some 36, op := .load _ _, type := _, pos := _, after := _, guard := _ } :: _) _ _); refine wpList_load_rcm rfl (.tmp 35) rfl b (o + j * 18) (by simp [Act.eval, go_sem]) r RG6.out ?_)
    | (go_at_call 22; (with_reducible refine (CP.out _ _ D2.out).mono ?_); rintro e w7 hp; obtain ⟨rfl, hd2, hkk⟩ := hp; have V7 := Lib.hid (FA.out _ hkk); have D3 := Lib.hid hd2; clear hd2 hkk D2 FA))
   go_upto_region 11 with (go_at_call 28; (with_reducible refine (bp_units D3.out).mono ?_); rintro e w8 ⟨A8, c8, rfl, h1, h2, h3⟩; rw [units_len] at h1 ⊢; have D4 := Lib.hid (bp_on D3.out h2); have V8 := Lib.hid (V7.out.on h2); have N8 := Lib.hid h1; clear h1 h2 h3 D3 V7)
   obtain ⟨bn, on, rfl⟩ := units_some N8.out
   have hcw := V8.out.cap
   have hcn := N8.out.cap
   have RG8 := Lib.hid (range_on RG.out ((bp_below D4.out).block b HB.out))
   obtain ⟨it, hit⟩ : ∃ it : Bool, (it = true ↔ z = 0 ∧ r.kind = 5) := by
    by_cases h : z = 0 ∧ r.kind = 5
    ·exact ⟨true, by simp [h]⟩
    ·exact ⟨false, by simp [h]⟩
   have IT := Lib.hid hit
   clear hit
   go_cut [11] (fun s11 wx => s11 = .bool it ∧ BP w3 F5 q s2 wx ∧ Below w8.heap.size w8 wx)
   case first =>
    have e0 := RG8.out 0 _ rfl
    rw [Nat.add_zero] at e0
    have lg := Nat.lt_of_lt_of_le HB.out (bp_below D4.out).size
    by_cases hz : z = 0
    ·have q2 : (z == 0) = true := by simp [hz]
     by_cases hk : r.kind = 5
     ·have q3 : (r.kind == 5) = true := by simp [hk]
      have hi := IT.out.2 ⟨hz, hk⟩
      clear hz hk IT
      go_wp2_with fail
      go_meet
      case rel => exact ⟨by rw [hi], D4.out, Below.refl _ _⟩
     ·have q3 : (r.kind == 5) = false := by simp [hk]
      have hi : it = false := by cases it with | false => rfl | true => exact absurd (IT.out.1 rfl).2 hk
      clear hz hk IT
      go_wp2_with fail
      go_meet
      case rel => exact ⟨by rw [hi], D4.out, Below.refl _ _⟩
    ·have q2 : (z == 0) = false := by simpa using hz
     have hi : it = false := by cases it with | false => rfl | true => exact absurd (IT.out.1 rfl).1 hz
     clear hz IT
     go_wp2_with fail
     go_meet
     case rel => exact ⟨by rw [hi], D4.out, Below.refl _ _⟩
   case rest =>
    obtain ⟨rfl, hd, hb⟩ := hcut
    have D5 := Lib.hid hd
    have V9 := Lib.hid (V8.out.on hb)
    have N9 := Lib.hid (N8.out.on hb)
    clear hd hb V8 N8 D4 RG8 RG6
    have qq := QQ.out
    have h01 := HE.out.1
    have hw1 : wrap64 (sr - sq) = sr - sq := IntWalk.wrap64_in _ ⟨by omega, by omega⟩
    have hw2 : IntKind.i64.wrap (sr - sq) = sr - sq := IntWalk.i64_in _ ⟨by omega, by omega⟩
    have q1 : sr - sq ≤ 1 := by omega
    have q2 : (sr != sq) = it := by
     have h1 := HE.out.2.1
     rw [Bool.eq_iff_iff, bne_iff_ne]
     exact h1.trans IT.out.symm
    clear qq h01
    go_upto_region 14 with (first
     | (go_at_call 21; (with_reducible refine (bp_view D6.out).mono ?_); rintro e wb ⟨rfl, hb⟩; have D7 := Lib.hid (bp_on D6.out hb); have BX := Lib.hid (BA.out.trans (hb.mono BA.out.size)); clear hb D6 BA)
     | (go_at_call 21; (with_reducible refine (bp_view D5.out).mono ?_); rintro e wa ⟨rfl, hb⟩; have D6 := Lib.hid (bp_on D5.out hb); have BA := Lib.hid hb; clear hb D5))
    have HN : Hid (∀ u, u < 16 → ∀ W, Below wb.heap.size wb W → _) := fun u hu W hW => unit_cells hu (N9.out.on (BX.out.trans (hW.mono BX.out.size)))
    have HW : Hid (∀ u, u < 16 → ∀ W, Below wb.heap.size wb W → _) := fun u hu W hW => unit_cells hu (V9.out.on (BX.out.trans (hW.mono BX.out.size)))
    clear V9 N9 BX hw1 hw2 q1 q2
    go_wp2_with fail
    go_loopw [12] (fun k wt => ∃ u : Nat, u ≤ 16 ∧ k = .int .i64 u ∧ BP w3 F5 q s2 wt ∧ Below wb.heap.size wb wt) (fun k _ => 16 - (intOf k).toNat)
    case atStart => exact ⟨0, Nat.zero_le _, rfl, D7.out, Below.refl _ _⟩
    case round =>
     clear D7
     obtain ⟨u, hu, rfl, hd, hbe⟩ := hrel
     have D8 := Lib.hid hd
     have B8 := Lib.hid hbe
     clear hd hbe
     have k1 : (0 : Int) ≤ (u : Int) := by omega
     by_cases hlu : u < 16
     ·have k2 : (u : Int) < 16 := by omega
      have XN := Lib.hid (HN.out u hlu)
      have XW := Lib.hid (HW.out u hlu)
      have XU := HE.out.2.2 u
      have XF := HF.out u
      have OU := (OK2.out.us u).2.2.2
      rw [HSR.out] at OU
      have HLU := Lib.hid hlu
      have WHO : Hid (z = 0 ∧ r.kind = 5 ∧ r.who.toNat = u → it = true ∧ (r.who != (u : Int)) = false) := fun h => ⟨IT.out.2 ⟨h.1, h.2.1⟩, by
       have h5 := HI.out ⟨h.1, h.2.1⟩
       have : r.who = (u : Int) := by omega
       simp [this]⟩
      clear hlu
      generalize (s2.us u).q = qb at *
      generalize (s2.us u).v = vb at *
      generalize (s2.us u).d = db at *
      generalize (s.us u).v = va at *
      generalize (s.us u).d = da at *
      have ou1 : decide (sr < qb) = false := by simp; omega
      have ou2 : decide (qb > sr) = false := by simp; omega
      go_upto_region 17 with fail
      by_cases hv : vb = va
      ·have q3 : (vb != va) = false := by simp [hv]
       clear hv
       cases hda : da with
       | false =>
        clear XU XF WHO
        refine wp_region_held_drew (S := fun W => BP w3 F5 q s2 W ∧ Below wb.heap.size wb W) (by kernel_rfl) ⟨bp_on D8.out (Below.refl _ _).drew, B8.out.trans ((Below.refl _ _).drew.mono B8.out.size)⟩ (fun hS => ?_)
        refine tkYes 0 (v := ?_) rfl (by kernel_rfl) (fun _ _ _ h => h) rfl ?_ hS ?_
        rotate_left
        ·intro W hW; go_simp; (try with_reducible rfl)
        refine tkYes 1 (v := ?_) rfl (by kernel_rfl) (fun _ _ _ h => h) rfl ?_ hS ?_
        rotate_left
        ·intro W hW; go_simp; (try with_reducible rfl)
        refine tkYes 2 (v := ?_) rfl (by kernel_rfl) (fun _ _ _ h => h) rfl ?_ hS ?_
        rotate_left
        ·intro W hW; go_simp; (try with_reducible rfl)
        simp only [Act.put, zT, zO, zS]
        refine tkYes 3 (v := ?_) rfl (by kernel_rfl) (fun _ _ _ h => h) rfl ?_ hS ?_
        rotate_left
        ·intro W hW; go_simp; (try with_reducible rfl)
        refine tkYes 4 (v := ?_) rfl (by kernel_rfl) (fun _ _ _ h => h) rfl ?_ hS ?_
        rotate_left
        ·intro W hW; obtain ⟨c0, c1, c2, lc⟩ := XN.out W hW.2; go_simp; (try with_reducible rfl)
        refine tkYes 5 (v := ?_) rfl (by kernel_rfl) (fun _ _ _ h => h) rfl ?_ hS ?_
        rotate_left
        ·intro W hW; go_simp; (try with_reducible rfl)
        simp only [Act.put, zT, zO, zS]
        refine rnOne 6 rfl (by kernel_rfl) rfl (fun K hK => ?_)
        go_simp
        with_reducible refine (bp_view hS.1).mono ?_
        rintro e wv ⟨rfl, hb⟩
        have hS2 := And.intro (bp_on hS.1 hb) (hS.2.trans (hb.mono hS.2.size))
        clear hS hb
        have hS := hS2
        clear hS2
        refine hK.out _ _ hS (fun _ => ?_)
        clear hK K
        try simp only [Act.put, zT, zO, zS]
        refine tkYes 7 (v := ?_) rfl (by kernel_rfl) (fun _ _ _ h => h) rfl ?_ hS ?_
        rotate_left
        ·intro W hW; go_simp; (try with_reducible rfl)
        refine tkYes 8 (v := ?_) rfl (by kernel_rfl) (fun _ _ _ h => h) rfl ?_ hS ?_
        rotate_left
        ·intro W hW; go_simp; (try with_reducible rfl)
        simp only [Act.put, zT, zO, zS]
        refine tkYes 9 (v := ?_) rfl (by kernel_rfl) (fun _ _ _ h => h) rfl ?_ hS ?_
        rotate_left
        ·intro W hW; go_simp; (try with_reducible rfl)
        refine tkYes 10 (v := ?_) rfl (by kernel_rfl) (fun _ _ _ h => h) rfl ?_ hS ?_
        rotate_left
        ·intro W hW; go_simp; (try with_reducible rfl)
        refine tkYes 11 (v := ?_) rfl (by kernel_rfl) (fun _ _ _ h => h) rfl ?_ hS ?_
        rotate_left
        ·intro W hW; go_simp; (try with_reducible rfl)
        simp only [Act.put, zT, zO, zS]
        refine tkYes 12 (v := ?_) rfl (by kernel_rfl) (fun _ _ _ h => h) rfl ?_ hS ?_
        rotate_left
        ·intro W hW; go_simp; (try with_reducible rfl)
        refine tkYes 13 (v := ?_) rfl (by kernel_rfl) (fun _ _ _ h => h) rfl ?_ hS ?_
        rotate_left
        ·intro W hW; go_simp; (try with_reducible rfl)
        refine tkYes 14 (v := ?_) rfl (by kernel_rfl) (fun _ _ _ h => h) rfl ?_ hS ?_
        rotate_left
        ·intro W hW; obtain ⟨c0, c1, c2, lc⟩ := XW.out W hW.2; go_simp; (try with_reducible rfl)
        simp only [Act.put, zT, zO, zS]
        refine tkYes 15 (v := ?_) rfl (by kernel_rfl) (fun _ _ _ h => h) rfl ?_ hS ?_
        rotate_left
        ·intro W hW; go_simp; (try with_reducible rfl)
        refine tkNo 16 rfl (by kernel_rfl) (fun _ _ _ h => h) rfl hS ?_
        refine tkNo 17 rfl (by kernel_rfl) (fun _ _ _ h => h) rfl hS ?_
        simp only [Act.put, zT, zO, zS]
        refine tkNo 18 rfl (by kernel_rfl) (fun _ _ _ h => h) rfl hS ?_
        refine tkNo 19 rfl (by kernel_rfl) (fun _ _ _ h => h) rfl hS ?_
        refine tkNo 20 rfl (by kernel_rfl) (fun _ _ _ h => h) rfl hS ?_
        simp only [Act.put, zT, zO, zS]
        refine tkNo 21 rfl (by kernel_rfl) (fun _ _ _ h => h) rfl hS ?_
        refine tkYes 22 (v := ?_) rfl (by kernel_rfl) (fun _ _ _ h => h) rfl ?_ hS ?_
        rotate_left
        ·intro W hW; go_simp; (try with_reducible rfl)
        refine tkYes 23 (v := ?_) rfl (by kernel_rfl) (fun _ _ _ h => h) rfl ?_ hS ?_
        rotate_left
        ·intro W hW; go_simp; (try with_reducible rfl)
        simp only [Act.put, zT, zO, zS]
        refine tkNo 24 rfl (by kernel_rfl) (fun _ _ _ h => h) rfl hS ?_
        refine tkNo 25 rfl (by kernel_rfl) (fun _ _ _ h => h) rfl hS ?_
        refine tkNo 26 rfl (by kernel_rfl) (fun _ _ _ h => h) rfl hS ?_
        simp only [Act.put, zT, zO, zS]
        refine tkNo 27 rfl (by kernel_rfl) (fun _ _ _ h => h) rfl hS ?_
        refine tkNo 28 rfl (by kernel_rfl) (fun _ _ _ h => h) rfl hS ?_
        refine tkNo 29 rfl (by kernel_rfl) (fun _ _ _ h => h) rfl hS ?_
        simp only [Act.put, zT, zO, zS]
        refine tkNo 30 rfl (by kernel_rfl) (fun _ _ _ h => h) rfl hS ?_
        refine tkNo 31 rfl (by kernel_rfl) (fun _ _ _ h => h) rfl hS ?_
        refine tkNo 32 rfl (by kernel_rfl) (fun _ _ _ h => h) rfl hS ?_
        simp only [Act.put, zT, zO, zS]
        refine tkNo 33 rfl (by kernel_rfl) (fun _ _ _ h => h) rfl hS ?_
        refine tkNo 34 rfl (by kernel_rfl) (fun _ _ _ h => h) rfl hS ?_
        refine tkYes 35 (v := ?_) rfl (by kernel_rfl) (fun _ _ _ h => h) rfl ?_ hS ?_
        rotate_left
        ·intro W hW; go_simp; (try with_reducible rfl)
        simp only [Act.put, zT, zO, zS]
        refine tkYes 36 (v := ?_) rfl (by kernel_rfl) (fun _ _ _ h => h) rfl ?_ hS ?_
        rotate_left
        ·intro W hW; go_simp; (try with_reducible rfl)
        refine tkYes 37 (v := ?_) rfl (by kernel_rfl) (fun _ _ _ h => h) rfl ?_ hS ?_
        rotate_left
        ·intro W hW; go_simp; (try with_reducible rfl)
        refine tkYes 38 (v := ?_) rfl (by kernel_rfl) (fun _ _ _ h => h) rfl ?_ hS ?_
        rotate_left
        ·intro W hW; go_simp; (try with_reducible rfl)
        simp only [Act.put, zT, zO, zS]
        refine tkYes 39 (v := ?_) rfl (by kernel_rfl) (fun _ _ _ h => h) rfl ?_ hS ?_
        rotate_left
        ·intro W hW; go_simp; (try with_reducible rfl)
        refine tkYes 40 (v := ?_) rfl (by kernel_rfl) (fun _ _ _ h => h) rfl ?_ hS ?_
        rotate_left
        ·intro W hW; go_simp; (try with_reducible rfl)
        refine tkYes 41 (v := ?_) rfl (by kernel_rfl) (fun _ _ _ h => h) rfl ?_ hS ?_
        rotate_left
        ·intro W hW; go_simp; (try with_reducible rfl)
        simp only [Act.put, zT, zO, zS]
        refine tkYes 42 (v := ?_) rfl (by kernel_rfl) (fun _ _ _ h => h) rfl ?_ hS ?_
        rotate_left
        ·intro W hW; obtain ⟨c0, c1, c2, lc⟩ := XN.out W hW.2; go_simp; (try with_reducible rfl)
        refine tkYes 43 (v := ?_) rfl (by kernel_rfl) (fun _ _ _ h => h) rfl ?_ hS ?_
        rotate_left
        ·intro W hW; go_simp; (try with_reducible rfl)
        refine tkYes 44 (v := ?_) rfl (by kernel_rfl) (fun _ _ _ h => h) rfl ?_ hS ?_
        rotate_left
        ·intro W hW; go_simp; (try with_reducible rfl)
        simp only [Act.put, zT, zO, zS]
        refine tkYes 45 (v := ?_) rfl (by kernel_rfl) (fun _ _ _ h => h) rfl ?_ hS ?_
        rotate_left
        ·intro W hW; go_simp; (try with_reducible rfl)
        refine tkYes 46 (v := ?_) rfl (by kernel_rfl) (fun _ _ _ h => h) rfl ?_ hS ?_
        rotate_left
        ·intro W hW; go_simp; (try with_reducible rfl)
        refine tkYes 47 (v := ?_) rfl (by kernel_rfl) (fun _ _ _ h => h) rfl ?_ hS ?_
        rotate_left
        ·intro W hW; obtain ⟨c0, c1, c2, lc⟩ := XW.out W hW.2; go_simp; (try with_reducible rfl)
        simp only [Act.put, zT, zO, zS]
        refine tkYes 48 (v := ?_) rfl (by kernel_rfl) (fun _ _ _ h => h) rfl ?_ hS ?_
        rotate_left
        ·intro W hW; go_simp; (try with_reducible rfl)
        refine tkYes 49 (v := ?_) rfl (by kernel_rfl) (fun _ _ _ h => h) rfl ?_ hS ?_
        rotate_left
        ·intro W hW; go_simp; (try with_reducible rfl)
        refine tkNo 50 rfl (by kernel_rfl) (fun _ _ _ h => h) rfl hS ?_
        simp only [Act.put, zT, zO, zS]
        refine tkNo 51 rfl (by kernel_rfl) (fun _ _ _ h => h) rfl hS ?_
        refine tkNo 52 rfl (by kernel_rfl) (fun _ _ _ h => h) rfl hS ?_
        refine tkNo 53 rfl (by kernel_rfl) (fun _ _ _ h => h) rfl hS ?_
        simp only [Act.put, zT, zO, zS]
        refine tkNo 54 rfl (by kernel_rfl) (fun _ _ _ h => h) rfl hS ?_
        refine tkNo 55 rfl (by kernel_rfl) (fun _ _ _ h => h) rfl hS ?_
        refine tkNo 56 rfl (by kernel_rfl) (fun _ _ _ h => h) rfl hS ?_
        simp only [Act.put, zT, zO, zS]
        refine tkNo 57 rfl (by kernel_rfl) (fun _ _ _ h => h) rfl hS ?_
        refine tkNo 58 rfl (by kernel_rfl) (fun _ _ _ h => h) rfl hS ?_
        refine tkNo 59 rfl (by kernel_rfl) (fun _ _ _ h => h) rfl hS ?_
        simp only [Act.put, zT, zO, zS]
        refine tkNo 60 rfl (by kernel_rfl) (fun _ _ _ h => h) rfl hS ?_
        refine tkYes 61 (v := ?_) rfl (by kernel_rfl) (fun _ _ _ h => h) rfl ?_ hS ?_
        rotate_left
        ·intro W hW; go_simp; (try with_reducible rfl)
        refine tkYes 62 (v := ?_) rfl (by kernel_rfl) (fun _ _ _ h => h) rfl ?_ hS ?_
        rotate_left
        ·intro W hW; go_simp; (try with_reducible rfl)
        simp only [Act.put, zT, zO, zS]
        refine wpAnyH_done (by kernel_rfl) ?_ _
        have D5 := Lib.hid hS
        clear hS
        go_wp2_with fail
        exact ⟨⟨u + 1, by have := HLU.out; omega, by go_num, D5.out.1, D5.out.2⟩, by simp [intOf]; have := HLU.out; omega⟩
       | true =>
        cases hdb : db with
        | true =>
         clear XU XF WHO
         refine wp_region_held_drew (S := fun W => BP w3 F5 q s2 W ∧ Below wb.heap.size wb W) (by kernel_rfl) ⟨bp_on D8.out (Below.refl _ _).drew, B8.out.trans ((Below.refl _ _).drew.mono B8.out.size)⟩ (fun hS => ?_)
         refine tkYes 0 (v := ?_) rfl (by kernel_rfl) (fun _ _ _ h => h) rfl ?_ hS ?_
         rotate_left
         ·intro W hW; go_simp; (try with_reducible rfl)
         refine tkYes 1 (v := ?_) rfl (by kernel_rfl) (fun _ _ _ h => h) rfl ?_ hS ?_
         rotate_left
         ·intro W hW; go_simp; (try with_reducible rfl)
         refine tkYes 2 (v := ?_) rfl (by kernel_rfl) (fun _ _ _ h => h) rfl ?_ hS ?_
         rotate_left
         ·intro W hW; go_simp; (try with_reducible rfl)
         simp only [Act.put, zT, zO, zS]
         refine tkYes 3 (v := ?_) rfl (by kernel_rfl) (fun _ _ _ h => h) rfl ?_ hS ?_
         rotate_left
         ·intro W hW; go_simp; (try with_reducible rfl)
         refine tkYes 4 (v := ?_) rfl (by kernel_rfl) (fun _ _ _ h => h) rfl ?_ hS ?_
         rotate_left
         ·intro W hW; obtain ⟨c0, c1, c2, lc⟩ := XN.out W hW.2; go_simp; (try with_reducible rfl)
         refine tkYes 5 (v := ?_) rfl (by kernel_rfl) (fun _ _ _ h => h) rfl ?_ hS ?_
         rotate_left
         ·intro W hW; go_simp; (try with_reducible rfl)
         simp only [Act.put, zT, zO, zS]
         refine rnOne 6 rfl (by kernel_rfl) rfl (fun K hK => ?_)
         go_simp
         with_reducible refine (bp_view hS.1).mono ?_
         rintro e wv ⟨rfl, hb⟩
         have hS2 := And.intro (bp_on hS.1 hb) (hS.2.trans (hb.mono hS.2.size))
         clear hS hb
         have hS := hS2
         clear hS2
         refine hK.out _ _ hS (fun _ => ?_)
         clear hK K
         try simp only [Act.put, zT, zO, zS]
         refine tkYes 7 (v := ?_) rfl (by kernel_rfl) (fun _ _ _ h => h) rfl ?_ hS ?_
         rotate_left
         ·intro W hW; go_simp; (try with_reducible rfl)
         refine tkYes 8 (v := ?_) rfl (by kernel_rfl) (fun _ _ _ h => h) rfl ?_ hS ?_
         rotate_left
         ·intro W hW; go_simp; (try with_reducible rfl)
         simp only [Act.put, zT, zO, zS]
         refine tkYes 9 (v := ?_) rfl (by kernel_rfl) (fun _ _ _ h => h) rfl ?_ hS ?_
         rotate_left
         ·intro W hW; go_simp; (try with_reducible rfl)
         refine tkYes 10 (v := ?_) rfl (by kernel_rfl) (fun _ _ _ h => h) rfl ?_ hS ?_
         rotate_left
         ·intro W hW; go_simp; (try with_reducible rfl)
         refine tkYes 11 (v := ?_) rfl (by kernel_rfl) (fun _ _ _ h => h) rfl ?_ hS ?_
         rotate_left
         ·intro W hW; go_simp; (try with_reducible rfl)
         simp only [Act.put, zT, zO, zS]
         refine tkYes 12 (v := ?_) rfl (by kernel_rfl) (fun _ _ _ h => h) rfl ?_ hS ?_
         rotate_left
         ·intro W hW; go_simp; (try with_reducible rfl)
         refine tkYes 13 (v := ?_) rfl (by kernel_rfl) (fun _ _ _ h => h) rfl ?_ hS ?_
         rotate_left
         ·intro W hW; go_simp; (try with_reducible rfl)
         refine tkYes 14 (v := ?_) rfl (by kernel_rfl) (fun _ _ _ h => h) rfl ?_ hS ?_
         rotate_left
         ·intro W hW; obtain ⟨c0, c1, c2, lc⟩ := XW.out W hW.2; go_simp; (try with_reducible rfl)
         simp only [Act.put, zT, zO, zS]
         refine tkYes 15 (v := ?_) rfl (by kernel_rfl) (fun _ _ _ h => h) rfl ?_ hS ?_
         rotate_left
         ·intro W hW; go_simp; (try with_reducible rfl)
         refine tkYes 16 (v := ?_) rfl (by kernel_rfl) (fun _ _ _ h => h) rfl ?_ hS ?_
         rotate_left
         ·intro W hW; go_simp; (try with_reducible rfl)
         refine tkYes 17 (v := ?_) rfl (by kernel_rfl) (fun _ _ _ h => h) rfl ?_ hS ?_
         rotate_left
         ·intro W hW; go_simp; (try with_reducible rfl)
         simp only [Act.put, zT, zO, zS]
         refine tkYes 18 (v := ?_) rfl (by kernel_rfl) (fun _ _ _ h => h) rfl ?_ hS ?_
         rotate_left
         ·intro W hW; go_simp; (try with_reducible rfl)
         refine tkYes 19 (v := ?_) rfl (by kernel_rfl) (fun _ _ _ h => h) rfl ?_ hS ?_
         rotate_left
         ·intro W hW; go_simp; (try with_reducible rfl)
         refine tkYes 20 (v := ?_) rfl (by kernel_rfl) (fun _ _ _ h => h) rfl ?_ hS ?_
         rotate_left
         ·intro W hW; obtain ⟨c0, c1, c2, lc⟩ := XN.out W hW.2; go_simp; (try with_reducible rfl)
         simp only [Act.put, zT, zO, zS]
         refine tkYes 21 (v := ?_) rfl (by kernel_rfl) (fun _ _ _ h => h) rfl ?_ hS ?_
         rotate_left
         ·intro W hW; go_simp; (try with_reducible rfl)
         refine tkYes 22 (v := ?_) rfl (by kernel_rfl) (fun _ _ _ h => h) rfl ?_ hS ?_
         rotate_left
         ·intro W hW; go_simp; (try with_reducible rfl)
         refine tkYes 23 (v := ?_) rfl (by kernel_rfl) (fun _ _ _ h => h) rfl ?_ hS ?_
         rotate_left
         ·intro W hW; go_simp; (try with_reducible rfl)
         simp only [Act.put, zT, zO, zS]
         refine tkNo 24 rfl (by kernel_rfl) (fun _ _ _ h => h) rfl hS ?_
         refine tkNo 25 rfl (by kernel_rfl) (fun _ _ _ h => h) rfl hS ?_
         refine tkNo 26 rfl (by kernel_rfl) (fun _ _ _ h => h) rfl hS ?_
         simp only [Act.put, zT, zO, zS]
         refine tkNo 27 rfl (by kernel_rfl) (fun _ _ _ h => h) rfl hS ?_
         refine tkNo 28 rfl (by kernel_rfl) (fun _ _ _ h => h) rfl hS ?_
         refine tkNo 29 rfl (by kernel_rfl) (fun _ _ _ h => h) rfl hS ?_
         simp only [Act.put, zT, zO, zS]
         refine tkNo 30 rfl (by kernel_rfl) (fun _ _ _ h => h) rfl hS ?_
         refine tkNo 31 rfl (by kernel_rfl) (fun _ _ _ h => h) rfl hS ?_
         refine tkNo 32 rfl (by kernel_rfl) (fun _ _ _ h => h) rfl hS ?_
         simp only [Act.put, zT, zO, zS]
         refine tkNo 33 rfl (by kernel_rfl) (fun _ _ _ h => h) rfl hS ?_
         refine tkNo 34 rfl (by kernel_rfl) (fun _ _ _ h => h) rfl hS ?_
         refine tkYes 35 (v := ?_) rfl (by kernel_rfl) (fun _ _ _ h => h) rfl ?_ hS ?_
         rotate_left
         ·intro W hW; go_simp; (try with_reducible rfl)
         simp only [Act.put, zT, zO, zS]
         refine tkYes 36 (v := ?_) rfl (by kernel_rfl) (fun _ _ _ h => h) rfl ?_ hS ?_
         rotate_left
         ·intro W hW; go_simp; (try with_reducible rfl)
         refine tkYes 37 (v := ?_) rfl (by kernel_rfl) (fun _ _ _ h => h) rfl ?_ hS ?_
         rotate_left
         ·intro W hW; go_simp; (try with_reducible rfl)
         refine tkYes 38 (v := ?_) rfl (by kernel_rfl) (fun _ _ _ h => h) rfl ?_ hS ?_
         rotate_left
         ·intro W hW; go_simp; (try with_reducible rfl)
         simp only [Act.put, zT, zO, zS]
         refine tkYes 39 (v := ?_) rfl (by kernel_rfl) (fun _ _ _ h => h) rfl ?_ hS ?_
         rotate_left
         ·intro W hW; go_simp; (try with_reducible rfl)
         refine tkYes 40 (v := ?_) rfl (by kernel_rfl) (fun _ _ _ h => h) rfl ?_ hS ?_
         rotate_left
         ·intro W hW; go_simp; (try with_reducible rfl)
         refine tkYes 41 (v := ?_) rfl (by kernel_rfl) (fun _ _ _ h => h) rfl ?_ hS ?_
         rotate_left
         ·intro W hW; go_simp; (try with_reducible rfl)
         simp only [Act.put, zT, zO, zS]
         refine tkYes 42 (v := ?_) rfl (by kernel_rfl) (fun _ _ _ h => h) rfl ?_ hS ?_
         rotate_left
         ·intro W hW; obtain ⟨c0, c1, c2, lc⟩ := XN.out W hW.2; go_simp; (try with_reducible rfl)
         refine tkYes 43 (v := ?_) rfl (by kernel_rfl) (fun _ _ _ h => h) rfl ?_ hS ?_
         rotate_left
         ·intro W hW; go_simp; (try with_reducible rfl)
         refine tkYes 44 (v := ?_) rfl (by kernel_rfl) (fun _ _ _ h => h) rfl ?_ hS ?_
         rotate_left
         ·intro W hW; go_simp; (try with_reducible rfl)
         simp only [Act.put, zT, zO, zS]
         refine tkYes 45 (v := ?_) rfl (by kernel_rfl) (fun _ _ _ h => h) rfl ?_ hS ?_
         rotate_left
         ·intro W hW; go_simp; (try with_reducible rfl)
         refine tkYes 46 (v := ?_) rfl (by kernel_rfl) (fun _ _ _ h => h) rfl ?_ hS ?_
         rotate_left
         ·intro W hW; go_simp; (try with_reducible rfl)
         refine tkYes 47 (v := ?_) rfl (by kernel_rfl) (fun _ _ _ h => h) rfl ?_ hS ?_
         rotate_left
         ·intro W hW; obtain ⟨c0, c1, c2, lc⟩ := XW.out W hW.2; go_simp; (try with_reducible rfl)
         simp only [Act.put, zT, zO, zS]
         refine tkYes 48 (v := ?_) rfl (by kernel_rfl) (fun _ _ _ h => h) rfl ?_ hS ?_
         rotate_left
         ·intro W hW; go_simp; (try with_reducible rfl)
         refine tkYes 49 (v := ?_) rfl (by kernel_rfl) (fun _ _ _ h => h) rfl ?_ hS ?_
         rotate_left
         ·intro W hW; go_simp; (try with_reducible rfl)
         refine tkNo 50 rfl (by kernel_rfl) (fun _ _ _ h => h) rfl hS ?_
         simp only [Act.put, zT, zO, zS]
         refine tkNo 51 rfl (by kernel_rfl) (fun _ _ _ h => h) rfl hS ?_
         refine tkNo 52 rfl (by kernel_rfl) (fun _ _ _ h => h) rfl hS ?_
         refine tkNo 53 rfl (by kernel_rfl) (fun _ _ _ h => h) rfl hS ?_
         simp only [Act.put, zT, zO, zS]
         refine tkNo 54 rfl (by kernel_rfl) (fun _ _ _ h => h) rfl hS ?_
         refine tkNo 55 rfl (by kernel_rfl) (fun _ _ _ h => h) rfl hS ?_
         refine tkNo 56 rfl (by kernel_rfl) (fun _ _ _ h => h) rfl hS ?_
         simp only [Act.put, zT, zO, zS]
         refine tkNo 57 rfl (by kernel_rfl) (fun _ _ _ h => h) rfl hS ?_
         refine tkNo 58 rfl (by kernel_rfl) (fun _ _ _ h => h) rfl hS ?_
         refine tkNo 59 rfl (by kernel_rfl) (fun _ _ _ h => h) rfl hS ?_
         simp only [Act.put, zT, zO, zS]
         refine tkNo 60 rfl (by kernel_rfl) (fun _ _ _ h => h) rfl hS ?_
         refine tkYes 61 (v := ?_) rfl (by kernel_rfl) (fun _ _ _ h => h) rfl ?_ hS ?_
         rotate_left
         ·intro W hW; go_simp; (try with_reducible rfl)
         refine tkYes 62 (v := ?_) rfl (by kernel_rfl) (fun _ _ _ h => h) rfl ?_ hS ?_
         rotate_left
         ·intro W hW; go_simp; (try with_reducible rfl)
         simp only [Act.put, zT, zO, zS]
         refine wpAnyH_done (by kernel_rfl) ?_ _
         have D5 := Lib.hid hS
         clear hS
         go_wp2_with fail
         exact ⟨⟨u + 1, by have := HLU.out; omega, by go_num, D5.out.1, D5.out.2⟩, by simp [intOf]; have := HLU.out; omega⟩
        | false =>
         obtain ⟨rfl, q4⟩ := WHO.out (XU.1 hda hdb)
         clear XU XF WHO
         refine wp_region_held_drew (S := fun W => BP w3 F5 q s2 W ∧ Below wb.heap.size wb W) (by kernel_rfl) ⟨bp_on D8.out (Below.refl _ _).drew, B8.out.trans ((Below.refl _ _).drew.mono B8.out.size)⟩ (fun hS => ?_)
         refine tkYes 0 (v := ?_) rfl (by kernel_rfl) (fun _ _ _ h => h) rfl ?_ hS ?_
         rotate_left
         ·intro W hW; go_simp; (try with_reducible rfl)
         refine tkYes 1 (v := ?_) rfl (by kernel_rfl) (fun _ _ _ h => h) rfl ?_ hS ?_
         rotate_left
         ·intro W hW; go_simp; (try with_reducible rfl)
         refine tkYes 2 (v := ?_) rfl (by kernel_rfl) (fun _ _ _ h => h) rfl ?_ hS ?_
         rotate_left
         ·intro W hW; go_simp; (try with_reducible rfl)
         simp only [Act.put, zT, zO, zS]
         refine tkYes 3 (v := ?_) rfl (by kernel_rfl) (fun _ _ _ h => h) rfl ?_ hS ?_
         rotate_left
         ·intro W hW; go_simp; (try with_reducible rfl)
         refine tkYes 4 (v := ?_) rfl (by kernel_rfl) (fun _ _ _ h => h) rfl ?_ hS ?_
         rotate_left
         ·intro W hW; obtain ⟨c0, c1, c2, lc⟩ := XN.out W hW.2; go_simp; (try with_reducible rfl)
         refine tkYes 5 (v := ?_) rfl (by kernel_rfl) (fun _ _ _ h => h) rfl ?_ hS ?_
         rotate_left
         ·intro W hW; go_simp; (try with_reducible rfl)
         simp only [Act.put, zT, zO, zS]
         refine rnOne 6 rfl (by kernel_rfl) rfl (fun K hK => ?_)
         go_simp
         with_reducible refine (bp_view hS.1).mono ?_
         rintro e wv ⟨rfl, hb⟩
         have hS2 := And.intro (bp_on hS.1 hb) (hS.2.trans (hb.mono hS.2.size))
         clear hS hb
         have hS := hS2
         clear hS2
         refine hK.out _ _ hS (fun _ => ?_)
         clear hK K
         try simp only [Act.put, zT, zO, zS]
         refine tkYes 7 (v := ?_) rfl (by kernel_rfl) (fun _ _ _ h => h) rfl ?_ hS ?_
         rotate_left
         ·intro W hW; go_simp; (try with_reducible rfl)
         refine tkYes 8 (v := ?_) rfl (by kernel_rfl) (fun _ _ _ h => h) rfl ?_ hS ?_
         rotate_left
         ·intro W hW; go_simp; (try with_reducible rfl)
         simp only [Act.put, zT, zO, zS]
         refine tkYes 9 (v := ?_) rfl (by kernel_rfl) (fun _ _ _ h => h) rfl ?_ hS ?_
         rotate_left
         ·intro W hW; go_simp; (try with_reducible rfl)
         refine tkYes 10 (v := ?_) rfl (by kernel_rfl) (fun _ _ _ h => h) rfl ?_ hS ?_
         rotate_left
         ·intro W hW; go_simp; (try with_reducible rfl)
         refine tkYes 11 (v := ?_) rfl (by kernel_rfl) (fun _ _ _ h => h) rfl ?_ hS ?_
         rotate_left
         ·intro W hW; go_simp; (try with_reducible rfl)
         simp only [Act.put, zT, zO, zS]
         refine tkYes 12 (v := ?_) rfl (by kernel_rfl) (fun _ _ _ h => h) rfl ?_ hS ?_
         rotate_left
         ·intro W hW; go_simp; (try with_reducible rfl)
         refine tkYes 13 (v := ?_) rfl (by kernel_rfl) (fun _ _ _ h => h) rfl ?_ hS ?_
         rotate_left
         ·intro W hW; go_simp; (try with_reducible rfl)
         refine tkYes 14 (v := ?_) rfl (by kernel_rfl) (fun _ _ _ h => h) rfl ?_ hS ?_
         rotate_left
         ·intro W hW; obtain ⟨c0, c1, c2, lc⟩ := XW.out W hW.2; go_simp; (try with_reducible rfl)
         simp only [Act.put, zT, zO, zS]
         refine tkYes 15 (v := ?_) rfl (by kernel_rfl) (fun _ _ _ h => h) rfl ?_ hS ?_
         rotate_left
         ·intro W hW; go_simp; (try with_reducible rfl)
         refine tkYes 16 (v := ?_) rfl (by kernel_rfl) (fun _ _ _ h => h) rfl ?_ hS ?_
         rotate_left
         ·intro W hW; go_simp; (try with_reducible rfl)
         refine tkYes 17 (v := ?_) rfl (by kernel_rfl) (fun _ _ _ h => h) rfl ?_ hS ?_
         rotate_left
         ·intro W hW; go_simp; (try with_reducible rfl)
         simp only [Act.put, zT, zO, zS]
         refine tkYes 18 (v := ?_) rfl (by kernel_rfl) (fun _ _ _ h => h) rfl ?_ hS ?_
         rotate_left
         ·intro W hW; go_simp; (try with_reducible rfl)
         refine tkYes 19 (v := ?_) rfl (by kernel_rfl) (fun _ _ _ h => h) rfl ?_ hS ?_
         rotate_left
         ·intro W hW; go_simp; (try with_reducible rfl)
         refine tkYes 20 (v := ?_) rfl (by kernel_rfl) (fun _ _ _ h => h) rfl ?_ hS ?_
         rotate_left
         ·intro W hW; obtain ⟨c0, c1, c2, lc⟩ := XN.out W hW.2; go_simp; (try with_reducible rfl)
         simp only [Act.put, zT, zO, zS]
         refine tkYes 21 (v := ?_) rfl (by kernel_rfl) (fun _ _ _ h => h) rfl ?_ hS ?_
         rotate_left
         ·intro W hW; go_simp; (try with_reducible rfl)
         refine tkYes 22 (v := ?_) rfl (by kernel_rfl) (fun _ _ _ h => h) rfl ?_ hS ?_
         rotate_left
         ·intro W hW; go_simp; (try with_reducible rfl)
         refine tkYes 23 (v := ?_) rfl (by kernel_rfl) (fun _ _ _ h => h) rfl ?_ hS ?_
         rotate_left
         ·intro W hW; go_simp; (try with_reducible rfl)
         simp only [Act.put, zT, zO, zS]
         refine tkYes 24 (v := ?_) rfl (by kernel_rfl) (fun _ _ _ h => h) rfl ?_ hS ?_
         rotate_left
         ·intro W hW; go_simp; (try with_reducible rfl)
         refine tkYes 25 (v := ?_) rfl (by kernel_rfl) (fun _ _ _ h => h) rfl ?_ hS ?_
         rotate_left
         ·intro W hW; go_simp; (try with_reducible rfl)
         refine tkYes 26 (v := ?_) rfl (by kernel_rfl) (fun _ _ _ h => h) rfl ?_ hS ?_
         rotate_left
         ·intro W hW; go_simp; (try with_reducible rfl)
         simp only [Act.put, zT, zO, zS]
         refine tkYes 27 (v := ?_) rfl (by kernel_rfl) (fun _ _ _ h => h) rfl ?_ hS ?_
         rotate_left
         ·intro W hW; go_simp; (try with_reducible rfl)
         refine tkYes 28 (v := ?_) rfl (by kernel_rfl) (fun _ _ _ h => h) rfl ?_ hS ?_
         rotate_left
         ·intro W hW; go_simp; (try with_reducible rfl)
         refine tkYes 29 (v := ?_) rfl (by kernel_rfl) (fun _ _ _ h => h) rfl ?_ hS ?_
         rotate_left
         ·intro W hW; go_simp; (try with_reducible rfl)
         simp only [Act.put, zT, zO, zS]
         refine tkYes 30 (v := ?_) rfl (by kernel_rfl) (fun _ _ _ h => h) rfl ?_ hS ?_
         rotate_left
         ·intro W hW; go_simp; (try with_reducible rfl)
         refine tkYes 31 (v := ?_) rfl (by kernel_rfl) (fun _ _ _ h => h) rfl ?_ hS ?_
         rotate_left
         ·intro W hW; have lg := Nat.lt_of_lt_of_le HB.out (bp_below hW.1).size; have e2 := (range_on RG.out ((bp_below hW.1).block b HB.out)) 2 _ rfl; go_simp; (try with_reducible rfl)
         refine tkYes 32 (v := ?_) rfl (by kernel_rfl) (fun _ _ _ h => h) rfl ?_ hS ?_
         rotate_left
         ·intro W hW; go_simp; (try with_reducible rfl)
         simp only [Act.put, zT, zO, zS]
         refine tkYes 33 (v := ?_) rfl (by kernel_rfl) (fun _ _ _ h => h) rfl ?_ hS ?_
         rotate_left
         ·intro W hW; go_simp; (try with_reducible rfl)
         refine tkYes 34 (v := ?_) rfl (by kernel_rfl) (fun _ _ _ h => h) rfl ?_ hS ?_
         rotate_left
         ·intro W hW; go_simp; (try with_reducible rfl)
         refine tkYes 35 (v := ?_) rfl (by kernel_rfl) (fun _ _ _ h => h) rfl ?_ hS ?_
         rotate_left
         ·intro W hW; go_simp; (try with_reducible rfl)
         simp only [Act.put, zT, zO, zS]
         refine tkYes 36 (v := ?_) rfl (by kernel_rfl) (fun _ _ _ h => h) rfl ?_ hS ?_
         rotate_left
         ·intro W hW; go_simp; (try with_reducible rfl)
         refine tkYes 37 (v := ?_) rfl (by kernel_rfl) (fun _ _ _ h => h) rfl ?_ hS ?_
         rotate_left
         ·intro W hW; go_simp; (try with_reducible rfl)
         refine tkYes 38 (v := ?_) rfl (by kernel_rfl) (fun _ _ _ h => h) rfl ?_ hS ?_
         rotate_left
         ·intro W hW; go_simp; (try with_reducible rfl)
         simp only [Act.put, zT, zO, zS]
         refine tkYes 39 (v := ?_) rfl (by kernel_rfl) (fun _ _ _ h => h) rfl ?_ hS ?_
         rotate_left
         ·intro W hW; go_simp; (try with_reducible rfl)
         refine tkYes 40 (v := ?_) rfl (by kernel_rfl) (fun _ _ _ h => h) rfl ?_ hS ?_
         rotate_left
         ·intro W hW; go_simp; (try with_reducible rfl)
         refine tkYes 41 (v := ?_) rfl (by kernel_rfl) (fun _ _ _ h => h) rfl ?_ hS ?_
         rotate_left
         ·intro W hW; go_simp; (try with_reducible rfl)
         simp only [Act.put, zT, zO, zS]
         refine tkYes 42 (v := ?_) rfl (by kernel_rfl) (fun _ _ _ h => h) rfl ?_ hS ?_
         rotate_left
         ·intro W hW; obtain ⟨c0, c1, c2, lc⟩ := XN.out W hW.2; go_simp; (try with_reducible rfl)
         refine tkYes 43 (v := ?_) rfl (by kernel_rfl) (fun _ _ _ h => h) rfl ?_ hS ?_
         rotate_left
         ·intro W hW; go_simp; (try with_reducible rfl)
         refine tkYes 44 (v := ?_) rfl (by kernel_rfl) (fun _ _ _ h => h) rfl ?_ hS ?_
         rotate_left
         ·intro W hW; go_simp; (try with_reducible rfl)
         simp only [Act.put, zT, zO, zS]
         refine tkYes 45 (v := ?_) rfl (by kernel_rfl) (fun _ _ _ h => h) rfl ?_ hS ?_
         rotate_left
         ·intro W hW; go_simp; (try with_reducible rfl)
         refine tkYes 46 (v := ?_) rfl (by kernel_rfl) (fun _ _ _ h => h) rfl ?_ hS ?_
         rotate_left
         ·intro W hW; go_simp; (try with_reducible rfl)
         refine tkYes 47 (v := ?_) rfl (by kernel_rfl) (fun _ _ _ h => h) rfl ?_ hS ?_
         rotate_left
         ·intro W hW; obtain ⟨c0, c1, c2, lc⟩ := XW.out W hW.2; go_simp; (try with_reducible rfl)
         simp only [Act.put, zT, zO, zS]
         refine tkYes 48 (v := ?_) rfl (by kernel_rfl) (fun _ _ _ h => h) rfl ?_ hS ?_
         rotate_left
         ·intro W hW; go_simp; (try with_reducible rfl)
         refine tkYes 49 (v := ?_) rfl (by kernel_rfl) (fun _ _ _ h => h) rfl ?_ hS ?_
         rotate_left
         ·intro W hW; go_simp; (try with_reducible rfl)
         refine tkNo 50 rfl (by kernel_rfl) (fun _ _ _ h => h) rfl hS ?_
         simp only [Act.put, zT, zO, zS]
         refine tkNo 51 rfl (by kernel_rfl) (fun _ _ _ h => h) rfl hS ?_
         refine tkNo 52 rfl (by kernel_rfl) (fun _ _ _ h => h) rfl hS ?_
         refine tkNo 53 rfl (by kernel_rfl) (fun _ _ _ h => h) rfl hS ?_
         simp only [Act.put, zT, zO, zS]
         refine tkNo 54 rfl (by kernel_rfl) (fun _ _ _ h => h) rfl hS ?_
         refine tkNo 55 rfl (by kernel_rfl) (fun _ _ _ h => h) rfl hS ?_
         refine tkNo 56 rfl (by kernel_rfl) (fun _ _ _ h => h) rfl hS ?_
         simp only [Act.put, zT, zO, zS]
         refine tkNo 57 rfl (by kernel_rfl) (fun _ _ _ h => h) rfl hS ?_
         refine tkNo 58 rfl (by kernel_rfl) (fun _ _ _ h => h) rfl hS ?_
         refine tkNo 59 rfl (by kernel_rfl) (fun _ _ _ h => h) rfl hS ?_
         simp only [Act.put, zT, zO, zS]
         refine tkNo 60 rfl (by kernel_rfl) (fun _ _ _ h => h) rfl hS ?_
         refine tkYes 61 (v := ?_) rfl (by kernel_rfl) (fun _ _ _ h => h) rfl ?_ hS ?_
         rotate_left
         ·intro W hW; go_simp; (try with_reducible rfl)
         refine tkYes 62 (v := ?_) rfl (by kernel_rfl) (fun _ _ _ h => h) rfl ?_ hS ?_
         rotate_left
         ·intro W hW; go_simp; (try with_reducible rfl)
         simp only [Act.put, zT, zO, zS]
         refine wpAnyH_done (by kernel_rfl) ?_ _
         have D5 := Lib.hid hS
         clear hS
         go_wp2_with fail
         exact ⟨⟨u + 1, by have := HLU.out; omega, by go_num, D5.out.1, D5.out.2⟩, by simp [intOf]; have := HLU.out; omega⟩
      ·have q3 : (vb != va) = true := by simpa using hv
       obtain ⟨rfl, q4⟩ := WHO.out (XU.2 hv)
       obtain rfl : db = false := XF hv
       clear hv XU XF WHO
       cases hda : da with
       | false =>
        refine wp_region_held_drew (S := fun W => BP w3 F5 q s2 W ∧ Below wb.heap.size wb W) (by kernel_rfl) ⟨bp_on D8.out (Below.refl _ _).drew, B8.out.trans ((Below.refl _ _).drew.mono B8.out.size)⟩ (fun hS => ?_)
        refine tkYes 0 (v := ?_) rfl (by kernel_rfl) (fun _ _ _ h => h) rfl ?_ hS ?_
        rotate_left
        ·intro W hW; go_simp; (try with_reducible rfl)
        refine tkYes 1 (v := ?_) rfl (by kernel_rfl) (fun _ _ _ h => h) rfl ?_ hS ?_
        rotate_left
        ·intro W hW; go_simp; (try with_reducible rfl)
        refine tkYes 2 (v := ?_) rfl (by kernel_rfl) (fun _ _ _ h => h) rfl ?_ hS ?_
        rotate_left
        ·intro W hW; go_simp; (try with_reducible rfl)
        simp only [Act.put, zT, zO, zS]
        refine tkYes 3 (v := ?_) rfl (by kernel_rfl) (fun _ _ _ h => h) rfl ?_ hS ?_
        rotate_left
        ·intro W hW; go_simp; (try with_reducible rfl)
        refine tkYes 4 (v := ?_) rfl (by kernel_rfl) (fun _ _ _ h => h) rfl ?_ hS ?_
        rotate_left
        ·intro W hW; obtain ⟨c0, c1, c2, lc⟩ := XN.out W hW.2; go_simp; (try with_reducible rfl)
        refine tkYes 5 (v := ?_) rfl (by kernel_rfl) (fun _ _ _ h => h) rfl ?_ hS ?_
        rotate_left
        ·intro W hW; go_simp; (try with_reducible rfl)
        simp only [Act.put, zT, zO, zS]
        refine rnOne 6 rfl (by kernel_rfl) rfl (fun K hK => ?_)
        go_simp
        with_reducible refine (bp_view hS.1).mono ?_
        rintro e wv ⟨rfl, hb⟩
        have hS2 := And.intro (bp_on hS.1 hb) (hS.2.trans (hb.mono hS.2.size))
        clear hS hb
        have hS := hS2
        clear hS2
        refine hK.out _ _ hS (fun _ => ?_)
        clear hK K
        try simp only [Act.put, zT, zO, zS]
        refine tkYes 7 (v := ?_) rfl (by kernel_rfl) (fun _ _ _ h => h) rfl ?_ hS ?_
        rotate_left
        ·intro W hW; go_simp; (try with_reducible rfl)
        refine tkYes 8 (v := ?_) rfl (by kernel_rfl) (fun _ _ _ h => h) rfl ?_ hS ?_
        rotate_left
        ·intro W hW; go_simp; (try with_reducible rfl)
        simp only [Act.put, zT, zO, zS]
        refine tkYes 9 (v := ?_) rfl (by kernel_rfl) (fun _ _ _ h => h) rfl ?_ hS ?_
        rotate_left
        ·intro W hW; go_simp; (try with_reducible rfl)
        refine tkYes 10 (v := ?_) rfl (by kernel_rfl) (fun _ _ _ h => h) rfl ?_ hS ?_
        rotate_left
        ·intro W hW; go_simp; (try with_reducible rfl)
        refine tkYes 11 (v := ?_) rfl (by kernel_rfl) (fun _ _ _ h => h) rfl ?_ hS ?_
        rotate_left
        ·intro W hW; go_simp; (try with_reducible rfl)
        simp only [Act.put, zT, zO, zS]
        refine tkYes 12 (v := ?_) rfl (by kernel_rfl) (fun _ _ _ h => h) rfl ?_ hS ?_
        rotate_left
        ·intro W hW; go_simp; (try with_reducible rfl)
        refine tkYes 13 (v := ?_) rfl (by kernel_rfl) (fun _ _ _ h => h) rfl ?_ hS ?_
        rotate_left
        ·intro W hW; go_simp; (try with_reducible rfl)
        refine tkYes 14 (v := ?_) rfl (by kernel_rfl) (fun _ _ _ h => h) rfl ?_ hS ?_
        rotate_left
        ·intro W hW; obtain ⟨c0, c1, c2, lc⟩ := XW.out W hW.2; go_simp; (try with_reducible rfl)
        simp only [Act.put, zT, zO, zS]
        refine tkYes 15 (v := ?_) rfl (by kernel_rfl) (fun _ _ _ h => h) rfl ?_ hS ?_
        rotate_left
        ·intro W hW; go_simp; (try with_reducible rfl)
        refine tkNo 16 rfl (by kernel_rfl) (fun _ _ _ h => h) rfl hS ?_
        refine tkNo 17 rfl (by kernel_rfl) (fun _ _ _ h => h) rfl hS ?_
        simp only [Act.put, zT, zO, zS]
        refine tkNo 18 rfl (by kernel_rfl) (fun _ _ _ h => h) rfl hS ?_
        refine tkNo 19 rfl (by kernel_rfl) (fun _ _ _ h => h) rfl hS ?_
        refine tkNo 20 rfl (by kernel_rfl) (fun _ _ _ h => h) rfl hS ?_
        simp only [Act.put, zT, zO, zS]
        refine tkNo 21 rfl (by kernel_rfl) (fun _ _ _ h => h) rfl hS ?_
        refine tkYes 22 (v := ?_) rfl (by kernel_rfl) (fun _ _ _ h => h) rfl ?_ hS ?_
        rotate_left
        ·intro W hW; go_simp; (try with_reducible rfl)
        refine tkYes 23 (v := ?_) rfl (by kernel_rfl) (fun _ _ _ h => h) rfl ?_ hS ?_
        rotate_left
        ·intro W hW; go_simp; (try with_reducible rfl)
        simp only [Act.put, zT, zO, zS]
        refine tkNo 24 rfl (by kernel_rfl) (fun _ _ _ h => h) rfl hS ?_
        refine tkNo 25 rfl (by kernel_rfl) (fun _ _ _ h => h) rfl hS ?_
        refine tkNo 26 rfl (by kernel_rfl) (fun _ _ _ h => h) rfl hS ?_
        simp only [Act.put, zT, zO, zS]
        refine tkNo 27 rfl (by kernel_rfl) (fun _ _ _ h => h) rfl hS ?_
        refine tkNo 28 rfl (by kernel_rfl) (fun _ _ _ h => h) rfl hS ?_
        refine tkNo 29 rfl (by kernel_rfl) (fun _ _ _ h => h) rfl hS ?_
        simp only [Act.put, zT, zO, zS]
        refine tkNo 30 rfl (by kernel_rfl) (fun _ _ _ h => h) rfl hS ?_
        refine tkNo 31 rfl (by kernel_rfl) (fun _ _ _ h => h) rfl hS ?_
        refine tkNo 32 rfl (by kernel_rfl) (fun _ _ _ h => h) rfl hS ?_
        simp only [Act.put, zT, zO, zS]
        refine tkNo 33 rfl (by kernel_rfl) (fun _ _ _ h => h) rfl hS ?_
        refine tkNo 34 rfl (by kernel_rfl) (fun _ _ _ h => h) rfl hS ?_
        refine tkYes 35 (v := ?_) rfl (by kernel_rfl) (fun _ _ _ h => h) rfl ?_ hS ?_
        rotate_left
        ·intro W hW; go_simp; (try with_reducible rfl)
        simp only [Act.put, zT, zO, zS]
        refine tkYes 36 (v := ?_) rfl (by kernel_rfl) (fun _ _ _ h => h) rfl ?_ hS ?_
        rotate_left
        ·intro W hW; go_simp; (try with_reducible rfl)
        refine tkYes 37 (v := ?_) rfl (by kernel_rfl) (fun _ _ _ h => h) rfl ?_ hS ?_
        rotate_left
        ·intro W hW; go_simp; (try with_reducible rfl)
        refine tkYes 38 (v := ?_) rfl (by kernel_rfl) (fun _ _ _ h => h) rfl ?_ hS ?_
        rotate_left
        ·intro W hW; go_simp; (try with_reducible rfl)
        simp only [Act.put, zT, zO, zS]
        refine tkYes 39 (v := ?_) rfl (by kernel_rfl) (fun _ _ _ h => h) rfl ?_ hS ?_
        rotate_left
        ·intro W hW; go_simp; (try with_reducible rfl)
        refine tkYes 40 (v := ?_) rfl (by kernel_rfl) (fun _ _ _ h => h) rfl ?_ hS ?_
        rotate_left
        ·intro W hW; go_simp; (try with_reducible rfl)
        refine tkYes 41 (v := ?_) rfl (by kernel_rfl) (fun _ _ _ h => h) rfl ?_ hS ?_
        rotate_left
        ·intro W hW; go_simp; (try with_reducible rfl)
        simp only [Act.put, zT, zO, zS]
        refine tkYes 42 (v := ?_) rfl (by kernel_rfl) (fun _ _ _ h => h) rfl ?_ hS ?_
        rotate_left
        ·intro W hW; obtain ⟨c0, c1, c2, lc⟩ := XN.out W hW.2; go_simp; (try with_reducible rfl)
        refine tkYes 43 (v := ?_) rfl (by kernel_rfl) (fun _ _ _ h => h) rfl ?_ hS ?_
        rotate_left
        ·intro W hW; go_simp; (try with_reducible rfl)
        refine tkYes 44 (v := ?_) rfl (by kernel_rfl) (fun _ _ _ h => h) rfl ?_ hS ?_
        rotate_left
        ·intro W hW; go_simp; (try with_reducible rfl)
        simp only [Act.put, zT, zO, zS]
        refine tkYes 45 (v := ?_) rfl (by kernel_rfl) (fun _ _ _ h => h) rfl ?_ hS ?_
        rotate_left
        ·intro W hW; go_simp; (try with_reducible rfl)
        refine tkYes 46 (v := ?_) rfl (by kernel_rfl) (fun _ _ _ h => h) rfl ?_ hS ?_
        rotate_left
        ·intro W hW; go_simp; (try with_reducible rfl)
        refine tkYes 47 (v := ?_) rfl (by kernel_rfl) (fun _ _ _ h => h) rfl ?_ hS ?_
        rotate_left
        ·intro W hW; obtain ⟨c0, c1, c2, lc⟩ := XW.out W hW.2; go_simp; (try with_reducible rfl)
        simp only [Act.put, zT, zO, zS]
        refine tkYes 48 (v := ?_) rfl (by kernel_rfl) (fun _ _ _ h => h) rfl ?_ hS ?_
        rotate_left
        ·intro W hW; go_simp; (try with_reducible rfl)
        refine tkYes 49 (v := ?_) rfl (by kernel_rfl) (fun _ _ _ h => h) rfl ?_ hS ?_
        rotate_left
        ·intro W hW; go_simp; (try with_reducible rfl)
        refine tkYes 50 (v := ?_) rfl (by kernel_rfl) (fun _ _ _ h => h) rfl ?_ hS ?_
        rotate_left
        ·intro W hW; go_simp; (try with_reducible rfl)
        simp only [Act.put, zT, zO, zS]
        refine tkYes 51 (v := ?_) rfl (by kernel_rfl) (fun _ _ _ h => h) rfl ?_ hS ?_
        rotate_left
        ·intro W hW; go_simp; (try with_reducible rfl)
        refine tkYes 52 (v := ?_) rfl (by kernel_rfl) (fun _ _ _ h => h) rfl ?_ hS ?_
        rotate_left
        ·intro W hW; go_simp; (try with_reducible rfl)
        refine tkYes 53 (v := ?_) rfl (by kernel_rfl) (fun _ _ _ h => h) rfl ?_ hS ?_
        rotate_left
        ·intro W hW; go_simp; (try with_reducible rfl)
        simp only [Act.put, zT, zO, zS]
        refine tkYes 54 (v := ?_) rfl (by kernel_rfl) (fun _ _ _ h => h) rfl ?_ hS ?_
        rotate_left
        ·intro W hW; go_simp; (try with_reducible rfl)
        refine tkYes 55 (v := ?_) rfl (by kernel_rfl) (fun _ _ _ h => h) rfl ?_ hS ?_
        rotate_left
        ·intro W hW; go_simp; (try with_reducible rfl)
        refine tkYes 56 (v := ?_) rfl (by kernel_rfl) (fun _ _ _ h => h) rfl ?_ hS ?_
        rotate_left
        ·intro W hW; go_simp; (try with_reducible rfl)
        simp only [Act.put, zT, zO, zS]
        refine tkYes 57 (v := ?_) rfl (by kernel_rfl) (fun _ _ _ h => h) rfl ?_ hS ?_
        rotate_left
        ·intro W hW; have lg := Nat.lt_of_lt_of_le HB.out (bp_below hW.1).size; have e2 := (range_on RG.out ((bp_below hW.1).block b HB.out)) 2 _ rfl; go_simp; (try with_reducible rfl)
        refine tkYes 58 (v := ?_) rfl (by kernel_rfl) (fun _ _ _ h => h) rfl ?_ hS ?_
        rotate_left
        ·intro W hW; go_simp; (try with_reducible rfl)
        refine tkYes 59 (v := ?_) rfl (by kernel_rfl) (fun _ _ _ h => h) rfl ?_ hS ?_
        rotate_left
        ·intro W hW; go_simp; (try with_reducible rfl)
        simp only [Act.put, zT, zO, zS]
        refine tkYes 60 (v := ?_) rfl (by kernel_rfl) (fun _ _ _ h => h) rfl ?_ hS ?_
        rotate_left
        ·intro W hW; go_simp; (try with_reducible rfl)
        refine tkYes 61 (v := ?_) rfl (by kernel_rfl) (fun _ _ _ h => h) rfl ?_ hS ?_
        rotate_left
        ·intro W hW; go_simp; (try with_reducible rfl)
        refine tkYes 62 (v := ?_) rfl (by kernel_rfl) (fun _ _ _ h => h) rfl ?_ hS ?_
        rotate_left
        ·intro W hW; go_simp; (try with_reducible rfl)
        simp only [Act.put, zT, zO, zS]
        refine wpAnyH_done (by kernel_rfl) ?_ _
        have D5 := Lib.hid hS
        clear hS
        go_wp2_with fail
        exact ⟨⟨u + 1, by have := HLU.out; omega, by go_num, D5.out.1, D5.out.2⟩, by simp [intOf]; have := HLU.out; omega⟩
       | true =>
        refine wp_region_held_drew (S := fun W => BP w3 F5 q s2 W ∧ Below wb.heap.size wb W) (by kernel_rfl) ⟨bp_on D8.out (Below.refl _ _).drew, B8.out.trans ((Below.refl _ _).drew.mono B8.out.size)⟩ (fun hS => ?_)
        refine tkYes 0 (v := ?_) rfl (by kernel_rfl) (fun _ _ _ h => h) rfl ?_ hS ?_
        rotate_left
        ·intro W hW; go_simp; (try with_reducible rfl)
        refine tkYes 1 (v := ?_) rfl (by kernel_rfl) (fun _ _ _ h => h) rfl ?_ hS ?_
        rotate_left
        ·intro W hW; go_simp; (try with_reducible rfl)
        refine tkYes 2 (v := ?_) rfl (by kernel_rfl) (fun _ _ _ h => h) rfl ?_ hS ?_
        rotate_left
        ·intro W hW; go_simp; (try with_reducible rfl)
        simp only [Act.put, zT, zO, zS]
        refine tkYes 3 (v := ?_) rfl (by kernel_rfl) (fun _ _ _ h => h) rfl ?_ hS ?_
        rotate_left
        ·intro W hW; go_simp; (try with_reducible rfl)
        refine tkYes 4 (v := ?_) rfl (by kernel_rfl) (fun _ _ _ h => h) rfl ?_ hS ?_
        rotate_left
        ·intro W hW; obtain ⟨c0, c1, c2, lc⟩ := XN.out W hW.2; go_simp; (try with_reducible rfl)
        refine tkYes 5 (v := ?_) rfl (by kernel_rfl) (fun _ _ _ h => h) rfl ?_ hS ?_
        rotate_left
        ·intro W hW; go_simp; (try with_reducible rfl)
        simp only [Act.put, zT, zO, zS]
        refine rnOne 6 rfl (by kernel_rfl) rfl (fun K hK => ?_)
        go_simp
        with_reducible refine (bp_view hS.1).mono ?_
        rintro e wv ⟨rfl, hb⟩
        have hS2 := And.intro (bp_on hS.1 hb) (hS.2.trans (hb.mono hS.2.size))
        clear hS hb
        have hS := hS2
        clear hS2
        refine hK.out _ _ hS (fun _ => ?_)
        clear hK K
        try simp only [Act.put, zT, zO, zS]
        refine tkYes 7 (v := ?_) rfl (by kernel_rfl) (fun _ _ _ h => h) rfl ?_ hS ?_
        rotate_left
        ·intro W hW; go_simp; (try with_reducible rfl)
        refine tkYes 8 (v := ?_) rfl (by kernel_rfl) (fun _ _ _ h => h) rfl ?_ hS ?_
        rotate_left
        ·intro W hW; go_simp; (try with_reducible rfl)
        simp only [Act.put, zT, zO, zS]
        refine tkYes 9 (v := ?_) rfl (by kernel_rfl) (fun _ _ _ h => h) rfl ?_ hS ?_
        rotate_left
        ·intro W hW; go_simp; (try with_reducible rfl)
        refine tkYes 10 (v := ?_) rfl (by kernel_rfl) (fun _ _ _ h => h) rfl ?_ hS ?_
        rotate_left
        ·intro W hW; go_simp; (try with_reducible rfl)
        refine tkYes 11 (v := ?_) rfl (by kernel_rfl) (fun _ _ _ h => h) rfl ?_ hS ?_
        rotate_left
        ·intro W hW; go_simp; (try with_reducible rfl)
        simp only [Act.put, zT, zO, zS]
        refine tkYes 12 (v := ?_) rfl (by kernel_rfl) (fun _ _ _ h => h) rfl ?_ hS ?_
        rotate_left
        ·intro W hW; go_simp; (try with_reducible rfl)
        refine tkYes 13 (v := ?_) rfl (by kernel_rfl) (fun _ _ _ h => h) rfl ?_ hS ?_
        rotate_left
        ·intro W hW; go_simp; (try with_reducible rfl)
        refine tkYes 14 (v := ?_) rfl (by kernel_rfl) (fun _ _ _ h => h) rfl ?_ hS ?_
        rotate_left
        ·intro W hW; obtain ⟨c0, c1, c2, lc⟩ := XW.out W hW.2; go_simp; (try with_reducible rfl)
        simp only [Act.put, zT, zO, zS]
        refine tkYes 15 (v := ?_) rfl (by kernel_rfl) (fun _ _ _ h => h) rfl ?_ hS ?_
        rotate_left
        ·intro W hW; go_simp; (try with_reducible rfl)
        refine tkYes 16 (v := ?_) rfl (by kernel_rfl) (fun _ _ _ h => h) rfl ?_ hS ?_
        rotate_left
        ·intro W hW; go_simp; (try with_reducible rfl)
        refine tkYes 17 (v := ?_) rfl (by kernel_rfl) (fun _ _ _ h => h) rfl ?_ hS ?_
        rotate_left
        ·intro W hW; go_simp; (try with_reducible rfl)
        simp only [Act.put, zT, zO, zS]
        refine tkYes 18 (v := ?_) rfl (by kernel_rfl) (fun _ _ _ h => h) rfl ?_ hS ?_
        rotate_left
        ·intro W hW; go_simp; (try with_reducible rfl)
        refine tkYes 19 (v := ?_) rfl (by kernel_rfl) (fun _ _ _ h => h) rfl ?_ hS ?_
        rotate_left
        ·intro W hW; go_simp; (try with_reducible rfl)
        refine tkYes 20 (v := ?_) rfl (by kernel_rfl) (fun _ _ _ h => h) rfl ?_ hS ?_
        rotate_left
        ·intro W hW; obtain ⟨c0, c1, c2, lc⟩ := XN.out W hW.2; go_simp; (try with_reducible rfl)
        simp only [Act.put, zT, zO, zS]
        refine tkYes 21 (v := ?_) rfl (by kernel_rfl) (fun _ _ _ h => h) rfl ?_ hS ?_
        rotate_left
        ·intro W hW; go_simp; (try with_reducible rfl)
        refine tkYes 22 (v := ?_) rfl (by kernel_rfl) (fun _ _ _ h => h) rfl ?_ hS ?_
        rotate_left
        ·intro W hW; go_simp; (try with_reducible rfl)
        refine tkYes 23 (v := ?_) rfl (by kernel_rfl) (fun _ _ _ h => h) rfl ?_ hS ?_
        rotate_left
        ·intro W hW; go_simp; (try with_reducible rfl)
        simp only [Act.put, zT, zO, zS]
        refine tkYes 24 (v := ?_) rfl (by kernel_rfl) (fun _ _ _ h => h) rfl ?_ hS ?_
        rotate_left
        ·intro W hW; go_simp; (try with_reducible rfl)
        refine tkYes 25 (v := ?_) rfl (by kernel_rfl) (fun _ _ _ h => h) rfl ?_ hS ?_
        rotate_left
        ·intro W hW; go_simp; (try with_reducible rfl)
        refine tkYes 26 (v := ?_) rfl (by kernel_rfl) (fun _ _ _ h => h) rfl ?_ hS ?_
        rotate_left
        ·intro W hW; go_simp; (try with_reducible rfl)
        simp only [Act.put, zT, zO, zS]
        refine tkYes 27 (v := ?_) rfl (by kernel_rfl) (fun _ _ _ h => h) rfl ?_ hS ?_
        rotate_left
        ·intro W hW; go_simp; (try with_reducible rfl)
        refine tkYes 28 (v := ?_) rfl (by kernel_rfl) (fun _ _ _ h => h) rfl ?_ hS ?_
        rotate_left
        ·intro W hW; go_simp; (try with_reducible rfl)
        refine tkYes 29 (v := ?_) rfl (by kernel_rfl) (fun _ _ _ h => h) rfl ?_ hS ?_
        rotate_left
        ·intro W hW; go_simp; (try with_reducible rfl)
        simp only [Act.put, zT, zO, zS]
        refine tkYes 30 (v := ?_) rfl (by kernel_rfl) (fun _ _ _ h => h) rfl ?_ hS ?_
        rotate_left
        ·intro W hW; go_simp; (try with_reducible rfl)
        refine tkYes 31 (v := ?_) rfl (by kernel_rfl) (fun _ _ _ h => h) rfl ?_ hS ?_
        rotate_left
        ·intro W hW; have lg := Nat.lt_of_lt_of_le HB.out (bp_below hW.1).size; have e2 := (range_on RG.out ((bp_below hW.1).block b HB.out)) 2 _ rfl; go_simp; (try with_reducible rfl)
        refine tkYes 32 (v := ?_) rfl (by kernel_rfl) (fun _ _ _ h => h) rfl ?_ hS ?_
        rotate_left
        ·intro W hW; go_simp; (try with_reducible rfl)
        simp only [Act.put, zT, zO, zS]
        refine tkYes 33 (v := ?_) rfl (by kernel_rfl) (fun _ _ _ h => h) rfl ?_ hS ?_
        rotate_left
        ·intro W hW; go_simp; (try with_reducible rfl)
        refine tkYes 34 (v := ?_) rfl (by kernel_rfl) (fun _ _ _ h => h) rfl ?_ hS ?_
        rotate_left
        ·intro W hW; go_simp; (try with_reducible rfl)
        refine tkYes 35 (v := ?_) rfl (by kernel_rfl) (fun _ _ _ h => h) rfl ?_ hS ?_
        rotate_left
        ·intro W hW; go_simp; (try with_reducible rfl)
        simp only [Act.put, zT, zO, zS]
        refine tkYes 36 (v := ?_) rfl (by kernel_rfl) (fun _ _ _ h => h) rfl ?_ hS ?_
        rotate_left
        ·intro W hW; go_simp; (try with_reducible rfl)
        refine tkYes 37 (v := ?_) rfl (by kernel_rfl) (fun _ _ _ h => h) rfl ?_ hS ?_
        rotate_left
        ·intro W hW; go_simp; (try with_reducible rfl)
        refine tkYes 38 (v := ?_) rfl (by kernel_rfl) (fun _ _ _ h => h) rfl ?_ hS ?_
        rotate_left
        ·intro W hW; go_simp; (try with_reducible rfl)
        simp only [Act.put, zT, zO, zS]
        refine tkYes 39 (v := ?_) rfl (by kernel_rfl) (fun _ _ _ h => h) rfl ?_ hS ?_
        rotate_left
        ·intro W hW; go_simp; (try with_reducible rfl)
        refine tkYes 40 (v := ?_) rfl (by kernel_rfl) (fun _ _ _ h => h) rfl ?_ hS ?_
        rotate_left
        ·intro W hW; go_simp; (try with_reducible rfl)
        refine tkYes 41 (v := ?_) rfl (by kernel_rfl) (fun _ _ _ h => h) rfl ?_ hS ?_
        rotate_left
        ·intro W hW; go_simp; (try with_reducible rfl)
        simp only [Act.put, zT, zO, zS]
        refine tkYes 42 (v := ?_) rfl (by kernel_rfl) (fun _ _ _ h => h) rfl ?_ hS ?_
        rotate_left
        ·intro W hW; obtain ⟨c0, c1, c2, lc⟩ := XN.out W hW.2; go_simp; (try with_reducible rfl)
        refine tkYes 43 (v := ?_) rfl (by kernel_rfl) (fun _ _ _ h => h) rfl ?_ hS ?_
        rotate_left
        ·intro W hW; go_simp; (try with_reducible rfl)
        refine tkYes 44 (v := ?_) rfl (by kernel_rfl) (fun _ _ _ h => h) rfl ?_ hS ?_
        rotate_left
        ·intro W hW; go_simp; (try with_reducible rfl)
        simp only [Act.put, zT, zO, zS]
        refine tkYes 45 (v := ?_) rfl (by kernel_rfl) (fun _ _ _ h => h) rfl ?_ hS ?_
        rotate_left
        ·intro W hW; go_simp; (try with_reducible rfl)
        refine tkYes 46 (v := ?_) rfl (by kernel_rfl) (fun _ _ _ h => h) rfl ?_ hS ?_
        rotate_left
        ·intro W hW; go_simp; (try with_reducible rfl)
        refine tkYes 47 (v := ?_) rfl (by kernel_rfl) (fun _ _ _ h => h) rfl ?_ hS ?_
        rotate_left
        ·intro W hW; obtain ⟨c0, c1, c2, lc⟩ := XW.out W hW.2; go_simp; (try with_reducible rfl)
        simp only [Act.put, zT, zO, zS]
        refine tkYes 48 (v := ?_) rfl (by kernel_rfl) (fun _ _ _ h => h) rfl ?_ hS ?_
        rotate_left
        ·intro W hW; go_simp; (try with_reducible rfl)
        refine tkYes 49 (v := ?_) rfl (by kernel_rfl) (fun _ _ _ h => h) rfl ?_ hS ?_
        rotate_left
        ·intro W hW; go_simp; (try with_reducible rfl)
        refine tkYes 50 (v := ?_) rfl (by kernel_rfl) (fun _ _ _ h => h) rfl ?_ hS ?_
        rotate_left
        ·intro W hW; go_simp; (try with_reducible rfl)
        simp only [Act.put, zT, zO, zS]
        refine tkYes 51 (v := ?_) rfl (by kernel_rfl) (fun _ _ _ h => h) rfl ?_ hS ?_
        rotate_left
        ·intro W hW; go_simp; (try with_reducible rfl)
        refine tkYes 52 (v := ?_) rfl (by kernel_rfl) (fun _ _ _ h => h) rfl ?_ hS ?_
        rotate_left
        ·intro W hW; go_simp; (try with_reducible rfl)
        refine tkYes 53 (v := ?_) rfl (by kernel_rfl) (fun _ _ _ h => h) rfl ?_ hS ?_
        rotate_left
        ·intro W hW; go_simp; (try with_reducible rfl)
        simp only [Act.put, zT, zO, zS]
        refine tkYes 54 (v := ?_) rfl (by kernel_rfl) (fun _ _ _ h => h) rfl ?_ hS ?_
        rotate_left
        ·intro W hW; go_simp; (try with_reducible rfl)
        refine tkYes 55 (v := ?_) rfl (by kernel_rfl) (fun _ _ _ h => h) rfl ?_ hS ?_
        rotate_left
        ·intro W hW; go_simp; (try with_reducible rfl)
        refine tkYes 56 (v := ?_) rfl (by kernel_rfl) (fun _ _ _ h => h) rfl ?_ hS ?_
        rotate_left
        ·intro W hW; go_simp; (try with_reducible rfl)
        simp only [Act.put, zT, zO, zS]
        refine tkYes 57 (v := ?_) rfl (by kernel_rfl) (fun _ _ _ h => h) rfl ?_ hS ?_
        rotate_left
        ·intro W hW; have lg := Nat.lt_of_lt_of_le HB.out (bp_below hW.1).size; have e2 := (range_on RG.out ((bp_below hW.1).block b HB.out)) 2 _ rfl; go_simp; (try with_reducible rfl)
        refine tkYes 58 (v := ?_) rfl (by kernel_rfl) (fun _ _ _ h => h) rfl ?_ hS ?_
        rotate_left
        ·intro W hW; go_simp; (try with_reducible rfl)
        refine tkYes 59 (v := ?_) rfl (by kernel_rfl) (fun _ _ _ h => h) rfl ?_ hS ?_
        rotate_left
        ·intro W hW; go_simp; (try with_reducible rfl)
        simp only [Act.put, zT, zO, zS]
        refine tkYes 60 (v := ?_) rfl (by kernel_rfl) (fun _ _ _ h => h) rfl ?_ hS ?_
        rotate_left
        ·intro W hW; go_simp; (try with_reducible rfl)
        refine tkYes 61 (v := ?_) rfl (by kernel_rfl) (fun _ _ _ h => h) rfl ?_ hS ?_
        rotate_left
        ·intro W hW; go_simp; (try with_reducible rfl)
        refine tkYes 62 (v := ?_) rfl (by kernel_rfl) (fun _ _ _ h => h) rfl ?_ hS ?_
        rotate_left
        ·intro W hW; go_simp; (try with_reducible rfl)
        simp only [Act.put, zT, zO, zS]
        refine wpAnyH_done (by kernel_rfl) ?_ _
        have D5 := Lib.hid hS
        clear hS
        go_wp2_with fail
        exact ⟨⟨u + 1, by have := HLU.out; omega, by go_num, D5.out.1, D5.out.2⟩, by simp [intOf]; have := HLU.out; omega⟩
     ·obtain rfl : u = 16 := by omega
      clear hlu
      go_wp2_with fail
      exact ⟨⟨j + 1, by have := HLT.out; omega, by go_num, by rw [HT.out]; exact bp_less D8.out (fun _ h => h.elim)⟩, by simp [intOf]; have := HLT.out; omega⟩
  ·obtain rfl : j = l3.length := by omega
   have B9 := Lib.hid (B3.out.trans ((bp_below D.out).mono B3.out.size))
   have i2 : ((l3.length : Nat) : Int) ≤ ((l3.length : Nat) : Int) := Int.le_refl _
   clear hlt
   go_wp2_with fail
   go_ret
   exact ⟨rfl, B9.out⟩
end Go.Proofs.YtnacjhnfkkddcaaGreatDoor
