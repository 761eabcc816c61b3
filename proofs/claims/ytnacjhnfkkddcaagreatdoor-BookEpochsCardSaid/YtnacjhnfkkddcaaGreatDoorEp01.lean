import Derived.Test.YtnacjhnfkkddcaaGreatDoorSe29
import Derived.Test.YtnacjhnfkkddcaaGreatDoorRows
import Derived.Test.YtnacjhnfkkddcaaGreatDoorTie
import Derived.Test.YtnacjhnfkkddcaaGreatDoorCards
import Derived.WalkKit
import Derived.ProofKit
import Derived.OpenShut
import Derived.ShutString
import Derived.ChangeOld
import Derived.Below
import Derived.LaidMore
import Derived.Lay
import Derived.SevenTiedAt
import Derived.Deep.Matrix
namespace Go.Proofs.YtnacjhnfkkddcaaGreatDoor
open Go.RowKit
set_option maxRecDepth 100000
set_option linter.unusedSimpArgs false
set_option linter.unusedVariables false
set_option maxHeartbeats 6400000 in
theorem bookepochs_walk (m : Int) (A : Option Addr) (k c : Nat) (l : List Rc.R) (hin : ∀ r ∈ l, Rc.In r) (W : World) (hs : SlF Bk.rcC W A k c l) (ht : BT W) : Calls Tryz.prog 4 #[.int .i64 m, .slice A k c] W (BRet (.bool true) W) := by
 have T0 := Lib.hid ht
 have S0 := Lib.hid hs
 have CLV := Lib.hid (lives_any W ht)
 have CSH : Hid (∀ w, SlF Bk.rcC w A k c l → Calls Tryz.prog 12 #[.slice A k c, .int .i64 60] w (SomeRecs w 60)) := fun w h => bkshort_any A k c 60 l hin w h (by omega)
 have CON : Hid (∀ w A k c l, SlF Bk.rcC w A k c l → (∀ r ∈ l, Rc.In r) → k ≤ 1000 → Calls Tryz.prog 13 #[.int .i64 m, .slice A k c] w (SomeRecs w k)) := fun w A k c l h1 h2 h3 => bkon_any m A k c l h2 w h1 h3
 have CNW := Lib.hid (fun w => bp_new w m)
 clear ht hs hin
 go_enter Tryz.func4, Tryz.ntmps4
 go_upto_region 5 with (first
  | (go_at_call 11; (with_reducible refine CLV.out.mono ?_); rintro e w1 ⟨rfl, hb⟩; have B1 := Lib.hid hb; have S1 := Lib.hid (S0.out.on hb); clear hb)
  | (go_at_call 12; (with_reducible refine (CSH.out _ S1.out).mono ?_); rintro e w2 ⟨A2, c2, l2, rfl, h1, h2, h3, h4⟩; have S2 := Lib.hid h1; have I2 := Lib.hid h2; have N2 := Lib.hid h3; have B2 := Lib.hid (B1.out.trans (h4.mono B1.out.size)); clear h1 h2 h3 h4)
  | (go_at_call 13; (with_reducible refine (CON.out _ _ _ _ _ S2.out I2.out (by have := N2.out; omega)).mono ?_); rintro e w3 ⟨A3, c3, l3, rfl, h1, h2, h3, h4⟩; have S3 := Lib.hid h1; have I3 := Lib.hid h2; have N3 := Lib.hid (Nat.le_trans h3 N2.out); have B3 := Lib.hid (B2.out.trans (h4.mono B2.out.size)); clear h1 h2 h3 h4)
  | (go_at_call 20; (with_reducible refine (CNW.out _).mono ?_); rintro e w4 ⟨q, rfl, hd⟩; have D4 := Lib.hid hd; clear hd))
 clear S0 S1 S2 I2 N2 B1 B2 CLV CSH CON CNW
 have T3 := Lib.hid (T0.out.on B3.out)
 clear T0
 have SZ := Lib.hid S3.out.len
 have hcap := S3.out.cap
 have n60 : ((l3.length : Nat) : Int) ≤ 60 := by have := N3.out; omega
 go_wp2_with fail
 go_loopw [6] (fun i wr => ∃ j : Nat, j ≤ l3.length ∧ i = .int .i64 j ∧ BP w3 (fun _ => False) q (Bk.run (Bk.new m) (l3.take j)) wr) (fun i _ => l3.length - (intOf i).toNat)
 case atStart => exact ⟨0, Nat.zero_le _, rfl, D4.out⟩
 case round =>
  clear D4
  obtain ⟨j, hj, rfl, hd⟩ := hrel
  have D := Lib.hid hd
  clear hd
  have i1 : (0 : Int) ≤ (j : Int) := by omega
  by_cases hlt : j < l3.length
  ·have hx : l3[j]? = some (l3[j]'hlt) := List.getElem?_eq_getElem _
   have HT := Lib.hid (Bk.take_run (Bk.new m) l3 (k := j) hlt).1
   generalize l3[j]'hlt = r at hx HT
   have HR : Hid (Rc.In r) := I3.out r (List.mem_of_getElem? hx)
   obtain ⟨b, o, rfl, hbl, hrg⟩ := rc_range S3.out hx
   have RG := Lib.hid hrg
   have HB := Lib.hid hbl
   have HLT := Lib.hid hlt
   have i2 : (j : Int) < (l3.length : Nat) := by omega
   clear hx hrg hbl hlt
   have OK : Hid (Bk.Ok (Bk.run (Bk.new m) (l3.take j))) := bp_ok D.out
   generalize Bk.run (Bk.new m) (l3.take j) = s at *
   have HE := Lib.hid (Bk.epochs (s := s) (r := r))
   have CP := Lib.hid (fun w (h : BP w3 (fun _ => False) q s w) => bp_apply h (T3.out.on (bp_below h)) HR.out)
   have hw1 : wrap64 (s.ep + 1) = s.ep + 1 := IntWalk.wrap64_in _ ⟨by have := OK.out.ep; omega, by have := OK.out.ep; omega⟩
   have hw2 : IntKind.i64.wrap (s.ep + 1) = s.ep + 1 := by rw [IntKind.wrap_i64]; have := OK.out.ep; omega
   have hv0 : ∀ w, (Instr.field 48 (.agg (Bk.viewC s)) 0).run Tryz.prog w = .ok (.int .i64 s.ep) w := vf0 s
   obtain ⟨s2, hs2⟩ : ∃ s2, s2 = Bk.app s r := ⟨_, rfl⟩
   obtain ⟨z, hz⟩ : ∃ z, z = Bk.chk s r := ⟨_, rfl⟩
   rw [← hs2, ← hz] at HE CP
   rw [← hs2] at HT
   clear hs2 hz
   have hu0 : ∀ w, (Instr.field 48 (.agg (Bk.viewC s2)) 0).run Tryz.prog w = .ok (.int .i64 s2.ep) w := vf0 s2
   have hu1 : ∀ w, (Instr.field 48 (.agg (Bk.viewC s2)) 1).run Tryz.prog w = .ok (.int .i64 s2.who) w := vf1 s2
   go_upto_region 9 with (go_at_call 21; (with_reducible refine (bp_view D.out).mono ?_); rintro e w5 ⟨rfl, hb⟩; have D1 := Lib.hid (bp_on D.out hb); have RG5 := Lib.hid (range_on RG.out ((bp_below D1.out).block b HB.out)); clear hb D)
   go_upto_region 10 with (first
    | ((with_reducible show wpList _ _ _ ({ dst := some 31, op := .load _ _, type := _, pos := _, after := _, guard := _ } :: _) _ _); refine wpList_load_rcm rfl (.tmp 30) rfl b (o + j * 18) (by simp [Act.eval, go_sem]) r RG5.out ?_)
    | (go_at_call 22; (with_reducible refine (CP.out _ D1.out).mono ?_); rintro e w6 hp; obtain ⟨rfl, hd2, _⟩ := hp; have D2 := Lib.hid hd2; clear hd2 D1))
   go_upto_region 11 with (go_at_call 21; (with_reducible refine (bp_view D2.out).mono ?_); rintro e w8 ⟨rfl, hb⟩; have D3 := Lib.hid (bp_on D2.out hb); clear hb D2)
   clear CP hv0 hu0 RG5
   generalize s.ep = was at *
   generalize hnow : s2.ep = now at *
   generalize hwho : s2.who = who at *
   have HB2 := HB
   by_cases h1 : now = was
   ·have q1 : (now != was) = false := by simp [h1]
    by_cases h2 : z = 0
    ·have q2 : (z == 0) = true := by simp [h2]
     have q3 : (r.epoch != now) = false := by have := HE.out.2 h2; simp [this]
     clear h1 h2 HE
     refine wp_region_held_drew (S := fun W => BP w3 (fun _ => False) q s2 W) (by kernel_rfl) (bp_on D3.out (Below.refl _ _).drew) (fun hS => ?_)
     refine tkYes 0 (v := ?_) rfl (by kernel_rfl) (fun _ _ _ h => h) rfl ?_ hS ?_
     rotate_left
     ·intro W hW; go_simp; (try with_reducible rfl)
     simp only [Act.put, zT, zO, zS]
     refine tkYes 1 (v := ?_) rfl (by kernel_rfl) (fun _ _ _ h => h) rfl ?_ hS ?_
     rotate_left
     ·intro W hW; go_simp; (try with_reducible rfl)
     simp only [Act.put, zT, zO, zS]
     refine tkYes 2 (v := ?_) rfl (by kernel_rfl) (fun _ _ _ h => h) rfl ?_ hS ?_
     rotate_left
     ·intro W hW; go_simp; (try with_reducible rfl)
     simp only [Act.put, zT, zO, zS]
     refine tkYes 3 (v := ?_) rfl (by kernel_rfl) (fun _ _ _ h => h) rfl ?_ hS ?_
     rotate_left
     ·intro W hW; go_simp; (try with_reducible rfl)
     simp only [Act.put, zT, zO, zS]
     refine tkNo 4 rfl (by kernel_rfl) (fun _ _ _ h => h) rfl hS ?_
     simp only [Act.put, zT, zO, zS]
     refine tkNo 5 rfl (by kernel_rfl) (fun _ _ _ h => h) rfl hS ?_
     simp only [Act.put, zT, zO, zS]
     refine tkNo 6 rfl (by kernel_rfl) (fun _ _ _ h => h) rfl hS ?_
     simp only [Act.put, zT, zO, zS]
     refine tkNo 7 rfl (by kernel_rfl) (fun _ _ _ h => h) rfl hS ?_
     simp only [Act.put, zT, zO, zS]
     refine tkNo 8 rfl (by kernel_rfl) (fun _ _ _ h => h) rfl hS ?_
     simp only [Act.put, zT, zO, zS]
     refine tkNo 9 rfl (by kernel_rfl) (fun _ _ _ h => h) rfl hS ?_
     simp only [Act.put, zT, zO, zS]
     refine tkNo 10 rfl (by kernel_rfl) (fun _ _ _ h => h) rfl hS ?_
     simp only [Act.put, zT, zO, zS]
     refine tkNo 11 rfl (by kernel_rfl) (fun _ _ _ h => h) rfl hS ?_
     simp only [Act.put, zT, zO, zS]
     refine tkNo 12 rfl (by kernel_rfl) (fun _ _ _ h => h) rfl hS ?_
     simp only [Act.put, zT, zO, zS]
     refine tkNo 13 rfl (by kernel_rfl) (fun _ _ _ h => h) rfl hS ?_
     simp only [Act.put, zT, zO, zS]
     refine tkNo 14 rfl (by kernel_rfl) (fun _ _ _ h => h) rfl hS ?_
     simp only [Act.put, zT, zO, zS]
     refine tkNo 15 rfl (by kernel_rfl) (fun _ _ _ h => h) rfl hS ?_
     simp only [Act.put, zT, zO, zS]
     refine tkNo 16 rfl (by kernel_rfl) (fun _ _ _ h => h) rfl hS ?_
     simp only [Act.put, zT, zO, zS]
     refine tkNo 17 rfl (by kernel_rfl) (fun _ _ _ h => h) rfl hS ?_
     simp only [Act.put, zT, zO, zS]
     refine tkNo 18 rfl (by kernel_rfl) (fun _ _ _ h => h) rfl hS ?_
     simp only [Act.put, zT, zO, zS]
     refine tkNo 19 rfl (by kernel_rfl) (fun _ _ _ h => h) rfl hS ?_
     simp only [Act.put, zT, zO, zS]
     refine tkNo 20 rfl (by kernel_rfl) (fun _ _ _ h => h) rfl hS ?_
     simp only [Act.put, zT, zO, zS]
     refine tkNo 21 rfl (by kernel_rfl) (fun _ _ _ h => h) rfl hS ?_
     simp only [Act.put, zT, zO, zS]
     refine tkNo 22 rfl (by kernel_rfl) (fun _ _ _ h => h) rfl hS ?_
     simp only [Act.put, zT, zO, zS]
     refine tkNo 23 rfl (by kernel_rfl) (fun _ _ _ h => h) rfl hS ?_
     simp only [Act.put, zT, zO, zS]
     refine tkNo 24 rfl (by kernel_rfl) (fun _ _ _ h => h) rfl hS ?_
     simp only [Act.put, zT, zO, zS]
     refine tkNo 25 rfl (by kernel_rfl) (fun _ _ _ h => h) rfl hS ?_
     simp only [Act.put, zT, zO, zS]
     refine tkNo 26 rfl (by kernel_rfl) (fun _ _ _ h => h) rfl hS ?_
     simp only [Act.put, zT, zO, zS]
     refine tkNo 27 rfl (by kernel_rfl) (fun _ _ _ h => h) rfl hS ?_
     simp only [Act.put, zT, zO, zS]
     refine tkNo 28 rfl (by kernel_rfl) (fun _ _ _ h => h) rfl hS ?_
     simp only [Act.put, zT, zO, zS]
     refine tkNo 29 rfl (by kernel_rfl) (fun _ _ _ h => h) rfl hS ?_
     simp only [Act.put, zT, zO, zS]
     refine tkNo 30 rfl (by kernel_rfl) (fun _ _ _ h => h) rfl hS ?_
     simp only [Act.put, zT, zO, zS]
     refine tkYes 31 (v := ?_) rfl (by kernel_rfl) (fun _ _ _ h => h) rfl ?_ hS ?_
     rotate_left
     ·intro W hW; go_simp; (try with_reducible rfl)
     simp only [Act.put, zT, zO, zS]
     refine tkYes 32 (v := ?_) rfl (by kernel_rfl) (fun _ _ _ h => h) rfl ?_ hS ?_
     rotate_left
     ·intro W hW; go_simp; (try with_reducible rfl)
     simp only [Act.put, zT, zO, zS]
     refine tkYes 33 (v := ?_) rfl (by kernel_rfl) (fun _ _ _ h => h) rfl ?_ hS ?_
     rotate_left
     ·intro W hW; go_simp; (try with_reducible rfl)
     simp only [Act.put, zT, zO, zS]
     refine tkYes 34 (v := ?_) rfl (by kernel_rfl) (fun _ _ _ h => h) rfl ?_ hS ?_
     rotate_left
     ·intro W hW; go_simp; (try with_reducible rfl)
     simp only [Act.put, zT, zO, zS]
     refine tkYes 35 (v := ?_) rfl (by kernel_rfl) (fun _ _ _ h => h) rfl ?_ hS ?_
     rotate_left
     ·intro W hW; go_simp; (try with_reducible rfl)
     simp only [Act.put, zT, zO, zS]
     refine tkYes 36 (v := ?_) rfl (by kernel_rfl) (fun _ _ _ h => h) rfl ?_ hS ?_
     rotate_left
     ·intro W hW; go_simp; (try with_reducible rfl)
     simp only [Act.put, zT, zO, zS]
     refine tkYes 37 (v := ?_) rfl (by kernel_rfl) (fun _ _ _ h => h) rfl ?_ hS ?_
     rotate_left
     ·intro W hW; go_simp; (try with_reducible rfl)
     simp only [Act.put, zT, zO, zS]
     refine tkYes 38 (v := ?_) rfl (by kernel_rfl) (fun _ _ _ h => h) rfl ?_ hS ?_
     rotate_left
     ·intro W hW; go_simp; (try with_reducible rfl)
     simp only [Act.put, zT, zO, zS]
     refine tkYes 39 (v := ?_) rfl (by kernel_rfl) (fun _ _ _ h => h) rfl ?_ hS ?_
     rotate_left
     ·intro W hW; go_simp; (try with_reducible rfl)
     simp only [Act.put, zT, zO, zS]
     refine tkYes 40 (v := ?_) rfl (by kernel_rfl) (fun _ _ _ h => h) rfl ?_ hS ?_
     rotate_left
     ·intro W hW; have lg := Nat.lt_of_lt_of_le HB.out (bp_below hW).size; have e1 := (range_on RG.out ((bp_below hW).block b HB.out)) 1 _ rfl; go_simp; (try with_reducible rfl)
     simp only [Act.put, zT, zO, zS]
     refine tkYes 41 (v := ?_) rfl (by kernel_rfl) (fun _ _ _ h => h) rfl ?_ hS ?_
     rotate_left
     ·intro W hW; go_simp; (try with_reducible rfl)
     simp only [Act.put, zT, zO, zS]
     refine tkYes 42 (v := ?_) rfl (by kernel_rfl) (fun _ _ _ h => h) rfl ?_ hS ?_
     rotate_left
     ·intro W hW; go_simp; (try with_reducible rfl)
     simp only [Act.put, zT, zO, zS]
     refine tkYes 43 (v := ?_) rfl (by kernel_rfl) (fun _ _ _ h => h) rfl ?_ hS ?_
     rotate_left
     ·intro W hW; go_simp; (try with_reducible rfl)
     simp only [Act.put, zT, zO, zS]
     refine tkYes 44 (v := ?_) rfl (by kernel_rfl) (fun _ _ _ h => h) rfl ?_ hS ?_
     rotate_left
     ·intro W hW; go_simp; (try with_reducible rfl)
     simp only [Act.put, zT, zO, zS]
     refine wpAnyH_done (by kernel_rfl) ?_ _
     have D5 := Lib.hid hS
     clear hS
     go_wp2_with fail
     exact ⟨⟨j + 1, by have := HLT.out; omega, by go_num, by rw [HT.out]; exact D5.out⟩, by simp [intOf]; have := HLT.out; omega⟩
    ·have q2 : (z == 0) = false := by simpa using h2
     clear h1 h2 HE
     refine wp_region_held_drew (S := fun W => BP w3 (fun _ => False) q s2 W) (by kernel_rfl) (bp_on D3.out (Below.refl _ _).drew) (fun hS => ?_)
     refine tkYes 0 (v := ?_) rfl (by kernel_rfl) (fun _ _ _ h => h) rfl ?_ hS ?_
     rotate_left
     ·intro W hW; go_simp; (try with_reducible rfl)
     simp only [Act.put, zT, zO, zS]
     refine tkYes 1 (v := ?_) rfl (by kernel_rfl) (fun _ _ _ h => h) rfl ?_ hS ?_
     rotate_left
     ·intro W hW; go_simp; (try with_reducible rfl)
     simp only [Act.put, zT, zO, zS]
     refine tkYes 2 (v := ?_) rfl (by kernel_rfl) (fun _ _ _ h => h) rfl ?_ hS ?_
     rotate_left
     ·intro W hW; go_simp; (try with_reducible rfl)
     simp only [Act.put, zT, zO, zS]
     refine tkYes 3 (v := ?_) rfl (by kernel_rfl) (fun _ _ _ h => h) rfl ?_ hS ?_
     rotate_left
     ·intro W hW; go_simp; (try with_reducible rfl)
     simp only [Act.put, zT, zO, zS]
     refine tkNo 4 rfl (by kernel_rfl) (fun _ _ _ h => h) rfl hS ?_
     simp only [Act.put, zT, zO, zS]
     refine tkNo 5 rfl (by kernel_rfl) (fun _ _ _ h => h) rfl hS ?_
     simp only [Act.put, zT, zO, zS]
     refine tkNo 6 rfl (by kernel_rfl) (fun _ _ _ h => h) rfl hS ?_
     simp only [Act.put, zT, zO, zS]
     refine tkNo 7 rfl (by kernel_rfl) (fun _ _ _ h => h) rfl hS ?_
     simp only [Act.put, zT, zO, zS]
     refine tkNo 8 rfl (by kernel_rfl) (fun _ _ _ h => h) rfl hS ?_
     simp only [Act.put, zT, zO, zS]
     refine tkNo 9 rfl (by kernel_rfl) (fun _ _ _ h => h) rfl hS ?_
     simp only [Act.put, zT, zO, zS]
     refine tkNo 10 rfl (by kernel_rfl) (fun _ _ _ h => h) rfl hS ?_
     simp only [Act.put, zT, zO, zS]
     refine tkNo 11 rfl (by kernel_rfl) (fun _ _ _ h => h) rfl hS ?_
     simp only [Act.put, zT, zO, zS]
     refine tkNo 12 rfl (by kernel_rfl) (fun _ _ _ h => h) rfl hS ?_
     simp only [Act.put, zT, zO, zS]
     refine tkNo 13 rfl (by kernel_rfl) (fun _ _ _ h => h) rfl hS ?_
     simp only [Act.put, zT, zO, zS]
     refine tkNo 14 rfl (by kernel_rfl) (fun _ _ _ h => h) rfl hS ?_
     simp only [Act.put, zT, zO, zS]
     refine tkNo 15 rfl (by kernel_rfl) (fun _ _ _ h => h) rfl hS ?_
     simp only [Act.put, zT, zO, zS]
     refine tkNo 16 rfl (by kernel_rfl) (fun _ _ _ h => h) rfl hS ?_
     simp only [Act.put, zT, zO, zS]
     refine tkNo 17 rfl (by kernel_rfl) (fun _ _ _ h => h) rfl hS ?_
     simp only [Act.put, zT, zO, zS]
     refine tkNo 18 rfl (by kernel_rfl) (fun _ _ _ h => h) rfl hS ?_
     simp only [Act.put, zT, zO, zS]
     refine tkNo 19 rfl (by kernel_rfl) (fun _ _ _ h => h) rfl hS ?_
     simp only [Act.put, zT, zO, zS]
     refine tkNo 20 rfl (by kernel_rfl) (fun _ _ _ h => h) rfl hS ?_
     simp only [Act.put, zT, zO, zS]
     refine tkNo 21 rfl (by kernel_rfl) (fun _ _ _ h => h) rfl hS ?_
     simp only [Act.put, zT, zO, zS]
     refine tkNo 22 rfl (by kernel_rfl) (fun _ _ _ h => h) rfl hS ?_
     simp only [Act.put, zT, zO, zS]
     refine tkNo 23 rfl (by kernel_rfl) (fun _ _ _ h => h) rfl hS ?_
     simp only [Act.put, zT, zO, zS]
     refine tkNo 24 rfl (by kernel_rfl) (fun _ _ _ h => h) rfl hS ?_
     simp only [Act.put, zT, zO, zS]
     refine tkNo 25 rfl (by kernel_rfl) (fun _ _ _ h => h) rfl hS ?_
     simp only [Act.put, zT, zO, zS]
     refine tkNo 26 rfl (by kernel_rfl) (fun _ _ _ h => h) rfl hS ?_
     simp only [Act.put, zT, zO, zS]
     refine tkNo 27 rfl (by kernel_rfl) (fun _ _ _ h => h) rfl hS ?_
     simp only [Act.put, zT, zO, zS]
     refine tkNo 28 rfl (by kernel_rfl) (fun _ _ _ h => h) rfl hS ?_
     simp only [Act.put, zT, zO, zS]
     refine tkNo 29 rfl (by kernel_rfl) (fun _ _ _ h => h) rfl hS ?_
     simp only [Act.put, zT, zO, zS]
     refine tkNo 30 rfl (by kernel_rfl) (fun _ _ _ h => h) rfl hS ?_
     simp only [Act.put, zT, zO, zS]
     refine tkYes 31 (v := ?_) rfl (by kernel_rfl) (fun _ _ _ h => h) rfl ?_ hS ?_
     rotate_left
     ·intro W hW; go_simp; (try with_reducible rfl)
     simp only [Act.put, zT, zO, zS]
     refine tkYes 32 (v := ?_) rfl (by kernel_rfl) (fun _ _ _ h => h) rfl ?_ hS ?_
     rotate_left
     ·intro W hW; go_simp; (try with_reducible rfl)
     simp only [Act.put, zT, zO, zS]
     refine tkYes 33 (v := ?_) rfl (by kernel_rfl) (fun _ _ _ h => h) rfl ?_ hS ?_
     rotate_left
     ·intro W hW; go_simp; (try with_reducible rfl)
     simp only [Act.put, zT, zO, zS]
     refine tkYes 34 (v := ?_) rfl (by kernel_rfl) (fun _ _ _ h => h) rfl ?_ hS ?_
     rotate_left
     ·intro W hW; go_simp; (try with_reducible rfl)
     simp only [Act.put, zT, zO, zS]
     refine tkYes 35 (v := ?_) rfl (by kernel_rfl) (fun _ _ _ h => h) rfl ?_ hS ?_
     rotate_left
     ·intro W hW; go_simp; (try with_reducible rfl)
     simp only [Act.put, zT, zO, zS]
     refine tkNo 36 rfl (by kernel_rfl) (fun _ _ _ h => h) rfl hS ?_
     simp only [Act.put, zT, zO, zS]
     refine tkNo 37 rfl (by kernel_rfl) (fun _ _ _ h => h) rfl hS ?_
     simp only [Act.put, zT, zO, zS]
     refine tkNo 38 rfl (by kernel_rfl) (fun _ _ _ h => h) rfl hS ?_
     simp only [Act.put, zT, zO, zS]
     refine tkNo 39 rfl (by kernel_rfl) (fun _ _ _ h => h) rfl hS ?_
     simp only [Act.put, zT, zO, zS]
     refine tkNo 40 rfl (by kernel_rfl) (fun _ _ _ h => h) rfl hS ?_
     simp only [Act.put, zT, zO, zS]
     refine tkNo 41 rfl (by kernel_rfl) (fun _ _ _ h => h) rfl hS ?_
     simp only [Act.put, zT, zO, zS]
     refine tkNo 42 rfl (by kernel_rfl) (fun _ _ _ h => h) rfl hS ?_
     simp only [Act.put, zT, zO, zS]
     refine tkYes 43 (v := ?_) rfl (by kernel_rfl) (fun _ _ _ h => h) rfl ?_ hS ?_
     rotate_left
     ·intro W hW; go_simp; (try with_reducible rfl)
     simp only [Act.put, zT, zO, zS]
     refine tkYes 44 (v := ?_) rfl (by kernel_rfl) (fun _ _ _ h => h) rfl ?_ hS ?_
     rotate_left
     ·intro W hW; go_simp; (try with_reducible rfl)
     simp only [Act.put, zT, zO, zS]
     refine wpAnyH_done (by kernel_rfl) ?_ _
     have D5 := Lib.hid hS
     clear hS
     go_wp2_with fail
     exact ⟨⟨j + 1, by have := HLT.out; omega, by go_num, by rw [HT.out]; exact D5.out⟩, by simp [intOf]; have := HLT.out; omega⟩
   ·obtain ⟨e1, e2, e3, e4⟩ := HE.out.1.resolve_left h1
    have q1 : (now != was) = true := by simpa using h1
    have q4 : (now != was + 1) = false := by simp [e1]
    have q5 : (r.kind != 1) = false := by simp [e2]
    have q6 : (z != 0) = false := by simp [e3]
    have q2 : (z == 0) = true := by simp [e3]
    have q7 : (who != r.who) = false := by simp [e4]
    have q3 : (r.epoch != now) = false := by have := HE.out.2 e3; simp [this]
    clear h1 HE e1 e2 e3 e4
    refine wp_region_held_drew (S := fun W => BP w3 (fun _ => False) q s2 W) (by kernel_rfl) (bp_on D3.out (Below.refl _ _).drew) (fun hS => ?_)
    refine tkYes 0 (v := ?_) rfl (by kernel_rfl) (fun _ _ _ h => h) rfl ?_ hS ?_
    rotate_left
    ·intro W hW; go_simp; (try with_reducible rfl)
    simp only [Act.put, zT, zO, zS]
    refine tkYes 1 (v := ?_) rfl (by kernel_rfl) (fun _ _ _ h => h) rfl ?_ hS ?_
    rotate_left
    ·intro W hW; go_simp; (try with_reducible rfl)
    simp only [Act.put, zT, zO, zS]
    refine tkYes 2 (v := ?_) rfl (by kernel_rfl) (fun _ _ _ h => h) rfl ?_ hS ?_
    rotate_left
    ·intro W hW; go_simp; (try with_reducible rfl)
    simp only [Act.put, zT, zO, zS]
    refine tkYes 3 (v := ?_) rfl (by kernel_rfl) (fun _ _ _ h => h) rfl ?_ hS ?_
    rotate_left
    ·intro W hW; go_simp; (try with_reducible rfl)
    simp only [Act.put, zT, zO, zS]
    refine tkYes 4 (v := ?_) rfl (by kernel_rfl) (fun _ _ _ h => h) rfl ?_ hS ?_
    rotate_left
    ·intro W hW; go_simp; (try with_reducible rfl)
    simp only [Act.put, zT, zO, zS]
    refine tkYes 5 (v := ?_) rfl (by kernel_rfl) (fun _ _ _ h => h) rfl ?_ hS ?_
    rotate_left
    ·intro W hW; go_simp; (try with_reducible rfl)
    simp only [Act.put, zT, zO, zS]
    refine tkYes 6 (v := ?_) rfl (by kernel_rfl) (fun _ _ _ h => h) rfl ?_ hS ?_
    rotate_left
    ·intro W hW; go_simp; (try with_reducible rfl)
    simp only [Act.put, zT, zO, zS]
    refine tkYes 7 (v := ?_) rfl (by kernel_rfl) (fun _ _ _ h => h) rfl ?_ hS ?_
    rotate_left
    ·intro W hW; go_simp; (try with_reducible rfl)
    simp only [Act.put, zT, zO, zS]
    refine tkYes 8 (v := ?_) rfl (by kernel_rfl) (fun _ _ _ h => h) rfl ?_ hS ?_
    rotate_left
    ·intro W hW; go_simp; (try with_reducible rfl)
    simp only [Act.put, zT, zO, zS]
    refine tkYes 9 (v := ?_) rfl (by kernel_rfl) (fun _ _ _ h => h) rfl ?_ hS ?_
    rotate_left
    ·intro W hW; go_simp; (try with_reducible rfl)
    simp only [Act.put, zT, zO, zS]
    refine tkYes 10 (v := ?_) rfl (by kernel_rfl) (fun _ _ _ h => h) rfl ?_ hS ?_
    rotate_left
    ·intro W hW; go_simp; (try with_reducible rfl)
    simp only [Act.put, zT, zO, zS]
    refine tkYes 11 (v := ?_) rfl (by kernel_rfl) (fun _ _ _ h => h) rfl ?_ hS ?_
    rotate_left
    ·intro W hW; go_simp; (try with_reducible rfl)
    simp only [Act.put, zT, zO, zS]
    refine tkYes 12 (v := ?_) rfl (by kernel_rfl) (fun _ _ _ h => h) rfl ?_ hS ?_
    rotate_left
    ·intro W hW; go_simp; (try with_reducible rfl)
    simp only [Act.put, zT, zO, zS]
    refine tkYes 13 (v := ?_) rfl (by kernel_rfl) (fun _ _ _ h => h) rfl ?_ hS ?_
    rotate_left
    ·intro W hW; have lg := Nat.lt_of_lt_of_le HB.out (bp_below hW).size; have e0 := (range_on RG.out ((bp_below hW).block b HB.out)) 0 _ rfl; rw [Nat.add_zero] at e0; go_simp; (try with_reducible rfl)
    simp only [Act.put, zT, zO, zS]
    refine tkYes 14 (v := ?_) rfl (by kernel_rfl) (fun _ _ _ h => h) rfl ?_ hS ?_
    rotate_left
    ·intro W hW; go_simp; (try with_reducible rfl)
    simp only [Act.put, zT, zO, zS]
    refine tkYes 15 (v := ?_) rfl (by kernel_rfl) (fun _ _ _ h => h) rfl ?_ hS ?_
    rotate_left
    ·intro W hW; go_simp; (try with_reducible rfl)
    simp only [Act.put, zT, zO, zS]
    refine tkYes 16 (v := ?_) rfl (by kernel_rfl) (fun _ _ _ h => h) rfl ?_ hS ?_
    rotate_left
    ·intro W hW; go_simp; (try with_reducible rfl)
    simp only [Act.put, zT, zO, zS]
    refine tkYes 17 (v := ?_) rfl (by kernel_rfl) (fun _ _ _ h => h) rfl ?_ hS ?_
    rotate_left
    ·intro W hW; go_simp; (try with_reducible rfl)
    simp only [Act.put, zT, zO, zS]
    refine tkYes 18 (v := ?_) rfl (by kernel_rfl) (fun _ _ _ h => h) rfl ?_ hS ?_
    rotate_left
    ·intro W hW; go_simp; (try with_reducible rfl)
    simp only [Act.put, zT, zO, zS]
    refine tkYes 19 (v := ?_) rfl (by kernel_rfl) (fun _ _ _ h => h) rfl ?_ hS ?_
    rotate_left
    ·intro W hW; go_simp; (try with_reducible rfl)
    simp only [Act.put, zT, zO, zS]
    refine tkYes 20 (v := ?_) rfl (by kernel_rfl) (fun _ _ _ h => h) rfl ?_ hS ?_
    rotate_left
    ·intro W hW; go_simp; (try with_reducible rfl)
    simp only [Act.put, zT, zO, zS]
    refine tkYes 21 (v := ?_) rfl (by kernel_rfl) (fun _ _ _ h => h) rfl ?_ hS ?_
    rotate_left
    ·intro W hW; go_simp; (try with_reducible rfl)
    simp only [Act.put, zT, zO, zS]
    refine tkYes 24 (v := ?_) rfl (by kernel_rfl) (fun _ _ _ h => h) rfl ?_ hS ?_
    rotate_left
    ·intro W hW; go_simp; (try with_reducible rfl)
    simp only [Act.put, zT, zO, zS]
    refine tkYes 25 (v := ?_) rfl (by kernel_rfl) (fun _ _ _ h => h) rfl ?_ hS ?_
    rotate_left
    ·intro W hW; go_simp; (try with_reducible rfl)
    simp only [Act.put, zT, zO, zS]
    refine tkYes 26 (v := ?_) rfl (by kernel_rfl) (fun _ _ _ h => h) rfl ?_ hS ?_
    rotate_left
    ·intro W hW; go_simp; (try with_reducible rfl)
    simp only [Act.put, zT, zO, zS]
    refine tkYes 27 (v := ?_) rfl (by kernel_rfl) (fun _ _ _ h => h) rfl ?_ hS ?_
    rotate_left
    ·intro W hW; go_simp; (try with_reducible rfl)
    simp only [Act.put, zT, zO, zS]
    refine tkYes 28 (v := ?_) rfl (by kernel_rfl) (fun _ _ _ h => h) rfl ?_ hS ?_
    rotate_left
    ·intro W hW; have lg := Nat.lt_of_lt_of_le HB.out (bp_below hW).size; have e2 := (range_on RG.out ((bp_below hW).block b HB.out)) 2 _ rfl; go_simp; (try with_reducible rfl)
    simp only [Act.put, zT, zO, zS]
    refine rnOne 22 rfl (by kernel_rfl) rfl (fun K hK => ?_)
    go_simp
    with_reducible refine (bp_view hS).mono ?_
    rintro e w7 ⟨rfl, hb⟩
    have hS2 := bp_on hS hb
    clear hS hb
    have hS := hS2
    clear hS2
    refine hK.out _ _ hS (fun _ => ?_)
    clear hK K
    try simp only [Act.put, zT, zO, zS]
    refine tkYes 23 (v := ?_) rfl (by kernel_rfl) (fun _ _ _ h => h) rfl ?_ hS ?_
    rotate_left
    ·intro W hW; go_simp; (try with_reducible rfl)
    simp only [Act.put, zT, zO, zS]
    refine tkYes 29 (v := ?_) rfl (by kernel_rfl) (fun _ _ _ h => h) rfl ?_ hS ?_
    rotate_left
    ·intro W hW; go_simp; (try with_reducible rfl)
    simp only [Act.put, zT, zO, zS]
    refine tkYes 30 (v := ?_) rfl (by kernel_rfl) (fun _ _ _ h => h) rfl ?_ hS ?_
    rotate_left
    ·intro W hW; go_simp; (try with_reducible rfl)
    simp only [Act.put, zT, zO, zS]
    refine tkYes 31 (v := ?_) rfl (by kernel_rfl) (fun _ _ _ h => h) rfl ?_ hS ?_
    rotate_left
    ·intro W hW; go_simp; (try with_reducible rfl)
    simp only [Act.put, zT, zO, zS]
    refine tkYes 32 (v := ?_) rfl (by kernel_rfl) (fun _ _ _ h => h) rfl ?_ hS ?_
    rotate_left
    ·intro W hW; go_simp; (try with_reducible rfl)
    simp only [Act.put, zT, zO, zS]
    refine tkYes 33 (v := ?_) rfl (by kernel_rfl) (fun _ _ _ h => h) rfl ?_ hS ?_
    rotate_left
    ·intro W hW; go_simp; (try with_reducible rfl)
    simp only [Act.put, zT, zO, zS]
    refine tkYes 34 (v := ?_) rfl (by kernel_rfl) (fun _ _ _ h => h) rfl ?_ hS ?_
    rotate_left
    ·intro W hW; go_simp; (try with_reducible rfl)
    simp only [Act.put, zT, zO, zS]
    refine tkYes 35 (v := ?_) rfl (by kernel_rfl) (fun _ _ _ h => h) rfl ?_ hS ?_
    rotate_left
    ·intro W hW; go_simp; (try with_reducible rfl)
    simp only [Act.put, zT, zO, zS]
    refine tkYes 36 (v := ?_) rfl (by kernel_rfl) (fun _ _ _ h => h) rfl ?_ hS ?_
    rotate_left
    ·intro W hW; go_simp; (try with_reducible rfl)
    simp only [Act.put, zT, zO, zS]
    refine tkYes 37 (v := ?_) rfl (by kernel_rfl) (fun _ _ _ h => h) rfl ?_ hS ?_
    rotate_left
    ·intro W hW; go_simp; (try with_reducible rfl)
    simp only [Act.put, zT, zO, zS]
    refine tkYes 38 (v := ?_) rfl (by kernel_rfl) (fun _ _ _ h => h) rfl ?_ hS ?_
    rotate_left
    ·intro W hW; go_simp; (try with_reducible rfl)
    simp only [Act.put, zT, zO, zS]
    refine tkYes 39 (v := ?_) rfl (by kernel_rfl) (fun _ _ _ h => h) rfl ?_ hS ?_
    rotate_left
    ·intro W hW; go_simp; (try with_reducible rfl)
    simp only [Act.put, zT, zO, zS]
    refine tkYes 40 (v := ?_) rfl (by kernel_rfl) (fun _ _ _ h => h) rfl ?_ hS ?_
    rotate_left
    ·intro W hW; have lg := Nat.lt_of_lt_of_le HB.out (bp_below hW).size; have e1 := (range_on RG.out ((bp_below hW).block b HB.out)) 1 _ rfl; go_simp; (try with_reducible rfl)
    simp only [Act.put, zT, zO, zS]
    refine tkYes 41 (v := ?_) rfl (by kernel_rfl) (fun _ _ _ h => h) rfl ?_ hS ?_
    rotate_left
    ·intro W hW; go_simp; (try with_reducible rfl)
    simp only [Act.put, zT, zO, zS]
    refine tkYes 42 (v := ?_) rfl (by kernel_rfl) (fun _ _ _ h => h) rfl ?_ hS ?_
    rotate_left
    ·intro W hW; go_simp; (try with_reducible rfl)
    simp only [Act.put, zT, zO, zS]
    refine tkYes 43 (v := ?_) rfl (by kernel_rfl) (fun _ _ _ h => h) rfl ?_ hS ?_
    rotate_left
    ·intro W hW; go_simp; (try with_reducible rfl)
    simp only [Act.put, zT, zO, zS]
    refine tkYes 44 (v := ?_) rfl (by kernel_rfl) (fun _ _ _ h => h) rfl ?_ hS ?_
    rotate_left
    ·intro W hW; go_simp; (try with_reducible rfl)
    simp only [Act.put, zT, zO, zS]
    refine wpAnyH_done (by kernel_rfl) ?_ _
    have D5 := Lib.hid hS
    clear hS
    go_wp2_with fail
    exact ⟨⟨j + 1, by have := HLT.out; omega, by go_num, by rw [HT.out]; exact D5.out⟩, by simp [intOf]; have := HLT.out; omega⟩
  ·obtain rfl : j = l3.length := by omega
   have B9 := Lib.hid (B3.out.trans ((bp_below D.out).mono B3.out.size))
   have i2 : ((l3.length : Nat) : Int) ≤ ((l3.length : Nat) : Int) := Int.le_refl _
   clear hlt
   go_wp2_with fail
   go_ret
   exact ⟨rfl, B9.out⟩
end Go.Proofs.YtnacjhnfkkddcaaGreatDoor
namespace Go.Proofs.YtnacjhnfkkddcaaGreatDoor.bookEpochs
open Go.ChangeShapes Go.WideShapes Go.ChangeAt Go.RowKit Go.Deep
open Go.ChangeMaps (open_string shut_string)
set_option linter.unusedVariables false
theorem own : ownKnob Tryz.prog.godebug = none := by kernel_rfl
theorem laidOut : laidOutB Tryz.prog = true := by kernel_rfl
set_option maxRecDepth 100000 in
theorem lifted (os : Os) (started : os.Started) (H : Type) (enc : TypeId × Value → H) :
  ReturnsInHanded {} Tryz.checked os 4 .any (fun w args => (Rows.bookEpochsSpec.pre enc Tryz.prog Tryz.f4 Rows.bookEpochsRow.domain false w args ∧ laidMetH Tryz.prog Rows.bookEpochsRow.laid w) ∧ sizedMet enc Tryz.prog Tryz.f4 (OpenSpec.ofChange Rows.bookEpochsSpec) false w args)
   (Rows.bookEpochsSpec.post enc Tryz.prog Tryz.f4 false true false false) := by
 refine returns_laid_shaped (C := Tryz.checked) (X := fun w _ => laidMetH Tryz.prog Rows.bookEpochsRow.laid w) (fun _ _ _ hh h => h.of_heap hh) own started (by kernel_rfl) Tryz.func4
  (ChangeSpec.witness_shaped (enc := enc) (C := Tryz.checked) (os := os) (X := fun w _ => laidMetH Tryz.prog Rows.bookEpochsRow.laid w) false (World.laidAll Tryz.prog os Rows.bookEpochsRow.laid) #[.int .i64 0, .slice none 0 0] 8 (World.laidAll_os _ _ _)
   (World.shaped_of_ZipB (by kernel_rfl) (by kernel_rfl)) (by kernel_rfl) (by kernel_rfl) (by kernel_rfl)
   (by rw [MakeChecks.laidMetH_plain _ _ _ (by kernel_rfl)]; exact laidMet_laidAll _ (by kernel_rfl) (by kernel_rfl))) ?_
 intro W base args ds gs before hval0 hW hL hsh
 have TB : BT W := tb_of hL hsh
 have hval : ∀ (j : Nat) t v, Tryz.f4.params[j]? = some t → args[j]? = some v → Value.okWide Tryz.prog W .any base t v := hval0
 have hW' := hW
 obtain ⟨p, q, hA0, hV, rfl, hfz, hnd⟩ := hW
 have hA : DataW.TrodAll enc Tryz.prog W 0 (fun _ => true) true Tryz.f4.params.toList args.toList ds p := hA0
 rw [Tryz.params4] at hA hval
 obtain ⟨v0, vs0, d0, ds0, p0, q0, hargs, rfl, rfl, h0, r0⟩ := trodAll_cons hA
 obtain ⟨v1, vs1, d1, ds1, p1, q1, rfl, rfl, rfl, h1, r1⟩ := trodAll_cons r0
 obtain ⟨rfl, rfl, rfl⟩ := trodAll_nil r1
 obtain rfl : args = #[v0, v1] := by cases args; simp_all
 obtain ⟨rfl, rfl⟩ := trodVars_none hV
 obtain ⟨a0, rfl, rfl, rfl, w0⟩ := open_int Tryz.underlying3 (hval 0 3 v0 rfl rfl) h0
 obtain ⟨a1, len1, cap1, rfl⟩ := okWide_slice Tryz.underlying22 (hval 1 22 v1 rfl rfl)
 have k1 := h1
 have lt1 : ∀ x ∈ p1, x.block < W.heap.size := by obtain ⟨m, hm⟩ := k1; exact DataW.trod_lt m _ _ _ hm
 obtain ⟨l1, s1⟩ : ∃ ts, SlF Bk.rcC W a1 len1 cap1 ts ∧ ∀ r ∈ ts, Rc.In r := by
  obtain ⟨fuel, hf⟩ := h1
  exact recs_of hf
 clear hA0 hval0
 refine (bookepochs_walk a0 a1 len1 cap1 l1 s1.2 W s1.1 TB).mono fun e W' ⟨he, bel⟩ => ?_
 subst he
 exact ⟨_, rfl, _, _, _, [], _, [], hW', trodAll_mk1 (shut_bool Tryz.underlying4 _), (trodAll_cons_mk (shut_int Tryz.underlying3 w0) (trodAll_cons_mk (Below.trod laidOut (by kernel_rfl) (of_decide_eq_true (by kernel_rfl)) k1 bel lt1) trodAll_mk0)), rfl, bel.frame _, fun h => by cases h⟩
theorem over : Rows.bookEpochsRow.holds Tryz.pinned (OpenSpec.ofChange Rows.bookEpochsSpec) :=
 OpenClaim.holds_of_wide 4 Tryz.f4 rfl rfl rfl rfl rfl rfl rfl ⟨rfl, rfl, rfl, rfl, rfl⟩ rfl rfl rfl rfl rfl (by kernel_rfl) Tryz.func4 (by kernel_rfl)
  (of_decide_eq_true (by kernel_rfl)) (by unfold Func.isWrapper; first | (rw [if_pos (by decide +kernel)]; kernel_rfl) | (rw [if_neg (by decide +kernel)]; exact ⟨rfl, rfl⟩))
  (fun os started H enc _ => lifted os started H enc)
theorem proved : Rows.BookEpochsCardSaid :=
 Claim7.holds_tied_plain_at .later [] [.data, .data, .data, .data, .data] true (true, "c5c1848f9e642c3994f925240c50aea25b5ca66c5be079995ae028e73a4b7396") true over (fun _ h => by cases h) (by kernel_rfl) (fun _ h => by cases h) bookEpochs_row_tie rfl ⟨rfl, rfl⟩ (by kernel_rfl) rfl
  (fun f fn hf hfn => by
   obtain rfl : f = 4 := Option.some.inj ((show Tryz.prog.funcNamed Rows.bookEpochsRow.func = some 4 by kernel_rfl).symm.trans hf) |>.symm
   obtain rfl : fn = Tryz.f4 := (Option.some.inj (Tryz.func4.symm.trans hfn)).symm
   exact ⟨by kernel_rfl, fun j t ht => by
    rw [Tryz.params4] at ht
    have hm : t ∈ [3, 22] := by simpa using Array.mem_of_getElem? ht
    have hall : ([3, 22].all fun u => !Tryz.prog.wantsStandIn u) = true := by kernel_rfl
    exact (show Tryz.prog.wantsStandIn t = false by simpa using List.all_eq_true.1 hall t hm)⟩)
  (by kernel_rfl)
end Go.Proofs.YtnacjhnfkkddcaaGreatDoor.bookEpochs
